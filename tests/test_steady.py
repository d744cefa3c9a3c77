"""Promises 0.2 to 0.4 over the modules that are there: nothing is kept, changed or mixed up between calls."""

import copy
import unittest

from tests.things import greatest_web, odd_things, ring_web, row_web, sides_numbers, sides_web, star_web, zigzag
from tienumbers.copies import cut_by, cut_good, folds_by, found_in
from tienumbers.counting import goes_on, next_numbers, next_steps, nth_steps, rank_of, steps_count, tally_at
from tienumbers.desk import Desk
from tienumbers.errors import (
    NoKind, NoNumber, NoPlace, NoRow, NoShare, NoSquare, NoText, NoWeb, TieError, TooGreat,
)
from tienumbers.evens import even_bar, even_bar_holds, even_for, even_good, numbering_of, place_sums, square_of
from tienumbers.kinds import kind_good, web_for
from tienumbers.making import grown_above, grown_steps, parted_for, steps_for
from tienumbers.rounds import (
    round_bar, round_bar_holds, round_for, round_from, round_good, round_sums, times_round, turned_round,
)
from tienumbers.searches import paper_for, paper_holds
from tienumbers.squares import moved_square, opposite_square, square_for, square_good, turned_square
from tienumbers.steps import (
    half_turned, joined_webs, mirrored_steps, parted_at, step_bar, step_bar_holds, steps_good, steps_of,
)
from tienumbers.texts import web_read, web_shown
from tienumbers.totals import (
    low_by, low_good, low_opposite, opposite_total, total_bar_holds, total_bars, total_for, total_good, total_of,
    total_span,
)
from tienumbers.unlike import (
    unlike_bar, unlike_bar_holds, unlike_by, unlike_count, unlike_first, unlike_for, unlike_good,
)
from tienumbers.webs import hubs_of, is_web, pieces_of, sides_of, ties_at, tie_counts, tree_like, web_of
from tienumbers.wholes import is_whole, whole_within

WEBS = [(1, ()), (4, ((0, 1), (0, 2), (1, 2))), (6, ((0, 3), (0, 4), (1, 5))), row_web(40), greatest_web()]
KINDS = [("spine", (1, 0, 2)), ("ring", 5), ("sides", 2, 3), ("full", 4), ("wheel", 4), ("fan", 3)]
# Webs with a steps numbering of each; the last two have too many ties to be counted.
NUMBERED = [
    ((1, ()), (0,)), (row_web(5), zigzag(5)), (ring_web(3), (0, 1, 3)), (star_web(6), (0, 5, 4, 3, 2, 1)),
    (row_web(40), zigzag(40)), (sides_web(6, 10), sides_numbers(6, 10)),
]
SUMMED = [web_for(kind) for kind in KINDS] + [row_web(2), ring_web(6), ring_web(39), sides_web(3, 3), (5, ((0, 4),))]
BARS = [("places",), ("share", 2), ("all",), ("ties",), ("lone",), ("count",), ("end", 0), ("pair", 0, 1), ("sides", 0)]
BARS += [("poor", 0), ("rich", 1), ["share", 2]]
PAPERS = [("bar", ("even",)), ("bar", ("places",)), ("clash", 0, 1), ("cases", (None,) * 6), ("cases", (None,))]


def said_behind(deeds, row):
    desk = Desk()
    for deed in deeds:
        desk.say(deed)
    return desk.say(row)


DUE = {
    web_of: (NoWeb,), ties_at: (NoPlace,), web_for: (NoKind,), steps_of: (NoNumber,), mirrored_steps: (NoNumber,),
    parted_at: (NoNumber,), half_turned: (NoNumber,), joined_webs: (NoNumber, TooGreat), steps_for: (NoKind,),
    parted_for: (NoKind,), grown_steps: (NoWeb,), grown_above: (NoWeb,), steps_count: (TooGreat,),
    nth_steps: (TooGreat, NoNumber), rank_of: (TooGreat, NoNumber), next_steps: (TooGreat, NoNumber),
    goes_on: (TooGreat, NoNumber), next_numbers: (TooGreat, NoNumber), tally_at: (TooGreat, NoPlace),
    paper_holds: (NoNumber,), paper_for: (TooGreat, NoNumber), round_sums: (NoPlace,), times_round: (NoShare,),
    round_for: (NoKind,), total_of: (NoNumber,), opposite_total: (NoNumber,), low_opposite: (NoNumber,),
    low_by: (NoNumber,), total_for: (NoKind,), square_for: (NoSquare,), even_for: (NoKind,),
    unlike_by: (NoKind, NoNumber), unlike_for: (NoKind,), unlike_count: (TooGreat,), unlike_first: (TooGreat,),
    cut_by: (TooGreat,), found_in: (TooGreat, NoPlace), folds_by: (TooGreat,), web_read: (NoText,),
    said_behind: (NoRow, NoWeb, NoKind, NoPlace, NoNumber, TooGreat),
}


def questions():
    """Each question as a function and what it is handed, refusals among them."""
    found = web_questions() + steps_questions() + counting_questions() + sums_questions() + square_questions()
    return found + unlike_questions() + cut_questions() + text_questions() + desk_questions()


def steps_questions():
    found = []
    for web, numbers in NUMBERED:
        found.append((step_bar, (web,)))
        for thing in [numbers, numbers[::-1], list(numbers), ("even",)] + odd_things():
            for asked in (steps_of, steps_good, mirrored_steps, parted_at, half_turned, step_bar_holds):
                found.append((asked, (web, thing)))
            found.append((joined_webs, (web, numbers, web, thing)))
            found.append((joined_webs, (web, thing, web, numbers)))
        for other, others in NUMBERED:
            found.append((joined_webs, (web, numbers, other, others)))
        for count in (1, 3, 39, 60):
            found.append((grown_steps, (web, numbers, count)))
            found.append((grown_above, (web, numbers, count)))
    for thing in KINDS + [("ring", 8), ("ring", 2)] + odd_things():
        found.append((steps_for, (thing,)))
        found.append((parted_for, (thing,)))
    return found


def sums_questions():
    found = [(round_sums, (web, (2,) * web[0])) for web in WEBS + SUMMED]
    for web in SUMMED:
        row = tuple(place % len(web[1]) for place in range(web[0]))
        found += [(turned_round, (web, row, more)) for more in (1, -3, 10 ** 99)]
        found += [(times_round, (web, row, often)) for often in (1, 0, 2, -3, 10 ** 99)]
        low = (tuple(range(1, web[0] + 1)), tuple(range(web[0] + 1, web[0] + len(web[1]) + 1)))
        found.append((place_sums, (web, low[1])))
        found += [(asked, (web,)) for asked in (round_bar, total_span, total_bars, even_bar)]
        for thing in [row, low, low[0], list(low[0]), low[1], ((1, 2), (3,))] + BARS + odd_things():
            for asked in (round_good, round_bar_holds, total_good, low_good, total_of, opposite_total, low_opposite,
                          low_by, total_bar_holds, even_good, even_bar_holds):
                found.append((asked, (web, thing)))
    found += [(round_from, held) for held in NUMBERED[1:2] + NUMBERED[3:5]]
    for thing in KINDS + [("ring", 6), ("ring", 2), ("spine", (0,))] + odd_things():
        found += [(asked, (thing,)) for asked in (round_for, total_for, even_for)]
    return found


def unlike_questions():
    found = []
    for web in SUMMED + [(1, ()), star_web(40)]:
        numbers = list(range(1, len(web[1]) + 1))
        found += [(asked, (web,)) for asked in (unlike_bar, unlike_count, unlike_first)]
        for thing in [numbers, tuple(numbers), numbers[::-1], ("lone", 0), ("bare", 0, 1)] + odd_things():
            found += [(asked, (web, thing)) for asked in (unlike_good, unlike_by, unlike_bar_holds)]
    return found + [(unlike_for, (thing,)) for thing in KINDS + [("ring", 40), ("spine", (39,))] + odd_things()]


def cut_questions():
    found = []
    for web, numbers in NUMBERED[1:]:
        found.append((cut_by, (web, numbers)))
        for thing in [0, 1, 2, 6] + odd_things():
            found += [(found_in, (web, numbers, 0, thing)), (found_in, (web, numbers, thing, 1))]
        for thing in [[numbers], [], [tuple(range(web[0]))]] + odd_things():
            found.append((cut_good, (web, 2 * len(web[1]) + 1, thing)))
    for web, numbers in NUMBERED[1:2] + NUMBERED[3:]:
        found += [(folds_by, (web, numbers, folds)) for folds in (1, 2, 4, 31)]
    found.append((cut_good, (row_web(5), 9, cut_by(row_web(5), zigzag(5)))))
    return found


def text_questions():
    found = [(web_shown, (web,)) for web in WEBS]
    return found + [(web_read, (thing,)) for thing in [web_shown(web) for web in WEBS] + ["web 3\n"] + odd_things()]


def desk_questions():
    """Each is asked of a desk that is made anew and told the same deeds."""
    rows = ["ties", "numbers", "steps", "left", "first", "can 1", "can 9", "good", "bar even", "shown", "back", "web 0"]
    rows += ["ring 2", "tie 0 1", "tie 0 9", "put 0 3", "put 1 61", "free 0", "free 1", "cut 0 1", "spine 1 1"]
    found = []
    for deeds in ([], ["ring 4", "put 0 4"], ["ring 8", "put 1 60"]):
        found += [(said_behind, (deeds, thing)) for thing in rows + odd_things()]
    return found


def square_questions():
    found = [(asked, (thing,)) for thing in [1, 2, 3, 7] + odd_things() for asked in (square_for, square_good)]
    for size in (1, 3, 4, 7):
        square = square_for(size)
        found += [(asked, (square,)) for asked in (square_good, opposite_square, turned_square, numbering_of)]
        found += [(square_of, (numbering_of(square),)), (square_good, (list(square),))]
        found.append((moved_square, (square, tuple(range(size)), tuple(reversed(range(size))))))
    return found


def counting_questions():
    found = []
    for web in [web for web, numbers in NUMBERED] + [ring_web(5), (40, ())]:
        found.append((steps_count, (web,)))
        for thing in [0, 1, (0, 1), (1, 0), zigzag(web[0])] + odd_things():
            for asked in (nth_steps, rank_of, next_steps, goes_on, next_numbers, tally_at, paper_for):
                found.append((asked, (web, thing)))
            found.append((paper_holds, (web, thing, ("bar", ("even",)))))
            found.append((paper_holds, (web, (), thing)))
        found.extend((paper_holds, (web, (), paper)) for paper in PAPERS)
    return found


def web_questions():
    found = []
    for web in WEBS:
        for asked in (is_web, tie_counts, pieces_of, tree_like, hubs_of, sides_of):
            found.append((asked, (web,)))
        found.append((ties_at, (web, 0)))
        found.append((ties_at, (web, web[0])))
        found.append((web_of, (web[0], list(reversed(web[1])))))
        found.append((web_of, (web[0], list(web[1]) + [None])))
    for kind in KINDS + [("ring", 2), ("spine", ())]:
        found.append((kind_good, (kind,)))
        found.append((web_for, (kind,)))
    for thing in odd_things():
        found.append((is_web, (thing,)))
        found.append((kind_good, (thing,)))
        found.append((web_for, (thing,)))
        found.append((ties_at, (WEBS[1], thing)))
        found.append((web_of, (thing, [thing])))
        found.append((web_of, (3, [(0, 1), thing])))
    return found


def answer(asked, given):
    try:
        return ("told", asked(*given))
    except TieError as error:
        return ("refused", type(error), vars(error))


def spoil(told):
    if isinstance(told, list):
        told.append("spoilt")
        told.reverse()


class SteadyTest(unittest.TestCase):
    def test_the_same_question_has_the_same_answer(self):
        asked = questions()
        first = [copy.deepcopy(answer(*question)) for question in asked]
        for question in reversed(asked):
            spoil(answer(*question)[1])
        self.assertEqual([answer(*question) for question in asked], first)

    def test_nothing_that_is_handed_in_is_changed(self):
        for asked, given in questions():
            kept = repr(given)
            spoil(answer(asked, given)[1])
            self.assertEqual(repr(given), kept)

    def test_each_refusal_is_of_the_class_that_is_told(self):
        seen = {}
        for asked, given in questions():
            told = answer(asked, given)
            if told[0] == "refused":
                self.assertIn(told[1], DUE[asked])
                seen[(asked, told[1])] = True
        for asked, classes in DUE.items():
            self.assertTrue(all((asked, due) in seen for due in classes), asked)

    def test_what_was_told_may_be_handed_in_again(self):
        for kind in KINDS:
            web = web_for(kind)
            self.assertIs(is_web(web), True)
            self.assertEqual(web_of(web[0], list(web[1])), web)
            self.assertEqual(len(tie_counts(web)), web[0])

    def test_numberings_and_papers_told_may_be_handed_in_again(self):
        for web, numbers in NUMBERED:
            for told in (mirrored_steps(web, numbers), nth_steps(web, 0) if len(web[1]) <= 7 else numbers):
                self.assertIs(steps_good(web, told), True)
        held = (row_web(2), (0, 1))
        for k in range(19):
            held = joined_webs(*held, *joined_webs(row_web(2), (1, 0), row_web(2), (0, 1)))
        self.assertEqual((held[0][0], steps_good(*held)), (40, True))
        for web, begun in ((ring_web(7), (0, 1)), (row_web(8), (0, 6)), (ring_web(5), ())):
            self.assertIs(paper_holds(web, begun, paper_for(web, begun)), True)

    def test_what_is_made_for_kinds_may_be_handed_in_again(self):
        for kind in [("spine", (0,) * 40), ("ring", 39), ("spine", (1, 0, 2))]:
            web = web_for(kind)
            self.assertIs(round_good(web, turned_round(web, round_for(kind)[1], 5)), True)
            self.assertIs(low_good(web, low_opposite(web, total_for(kind))), True)
            self.assertIs(even_bar_holds(web, even_for(kind)[1]), True)
        for web in WEBS[1:] + SUMMED:
            self.assertTrue(all(total_bar_holds(web, bar) for bar in total_bars(web)))
            self.assertIs(round_bar_holds(web, round_bar(web)), round_bar(web) is not None)
            self.assertIs(even_bar_holds(web, even_bar(web)), even_bar(web) is not None)
        for size in (1, 3, 4, 5, 6, 7):
            told = opposite_square(turned_square(square_of(numbering_of(square_for(size)))))
            self.assertIs(square_good(told), True)

    def test_cuts_and_texts_told_may_be_handed_in_again(self):
        for web, numbers in NUMBERED[1:4]:
            self.assertIs(cut_good(web, 2 * len(web[1]) + 1, cut_by(web, numbers)), True)
        web, numbers = row_web(16), zigzag(16)
        self.assertIs(cut_good(web, 61, folds_by(web, numbers, 2)), True)
        for web in WEBS + SUMMED:
            self.assertEqual(web_read(web_shown(web)), web)
            self.assertIs(unlike_bar_holds(web, unlike_bar(web)), unlike_bar(web) is not None)
            if 0 < len(web[1]) <= 6:
                self.assertIs(unlike_good(web, unlike_first(web)), unlike_count(web) > 0)
        for kind in (("ring", 40), ("spine", (0,) * 40), ("wheel", 30), ("full", 11)):
            told = unlike_for(kind)
            self.assertIs(unlike_good(web_for(kind), told), True)
            self.assertEqual(web_for(kind)[1] and sorted(told), list(range(1, len(told) + 1)))
        self.assertEqual(sorted(unlike_by(star_web(40), unlike_for(("sides", 1, 39)))), list(range(1, 40)))

    def test_pieces_spoilt_by_the_asker_leave_sides_alone(self):
        web = WEBS[2]
        spoil(pieces_of(web))
        self.assertEqual(pieces_of(web), [(0, 3, 4), (1, 5), (2,)])
        self.assertEqual(sides_of(web), (0, 0, 0, 1, 1, 1))


class WholesTest(unittest.TestCase):
    def test_truths_and_odd_things_are_no_whole_numbers(self):
        for thing in odd_things():
            due = isinstance(thing, int) and thing is not True and thing is not False
            self.assertIs(is_whole(thing), due)
            self.assertIs(whole_within(thing, -(10 ** 99), 10 ** 99), due)

    def test_edges(self):
        self.assertEqual([whole_within(n, 1, 3) for n in range(6)], [False, True, True, True, False, False])


if __name__ == "__main__":
    unittest.main()
