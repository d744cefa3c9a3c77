"""Promises 0.2 to 0.4 over the modules that are there: nothing is kept, changed or mixed up between calls."""

import copy
import unittest

from tests.things import greatest_web, odd_things, row_web
from tienumbers.errors import NoKind, NoPlace, NoWeb, TieError
from tienumbers.kinds import kind_good, web_for
from tienumbers.webs import hubs_of, is_web, pieces_of, sides_of, ties_at, tie_counts, tree_like, web_of
from tienumbers.wholes import is_whole, whole_within

WEBS = [(1, ()), (4, ((0, 1), (0, 2), (1, 2))), (6, ((0, 3), (0, 4), (1, 5))), row_web(40), greatest_web()]
KINDS = [("spine", (1, 0, 2)), ("ring", 5), ("sides", 2, 3), ("full", 4), ("wheel", 4), ("fan", 3)]


def questions():
    """Each question as a function and what it is handed, refusals among them."""
    found = []
    for web in WEBS:
        for asked in (is_web, tie_counts, pieces_of, tree_like, hubs_of, sides_of):
            found.append((asked, (web,)))
        found.append((ties_at, (web, 0)))
        found.append((ties_at, (web, web[0])))
        found.append((web_of, (web[0], list(reversed(web[1])))))
        found.append((web_of, (web[0], list(web[1]) + [None])))
    for kind in KINDS + [("ring", 2), ("spine", ())]:
        found.append((kind_good, (kind,)))
        found.append((web_for, (kind,)))
    for thing in odd_things():
        found.append((is_web, (thing,)))
        found.append((kind_good, (thing,)))
        found.append((web_for, (thing,)))
        found.append((ties_at, (WEBS[1], thing)))
        found.append((web_of, (thing, [thing])))
        found.append((web_of, (3, [(0, 1), thing])))
    return found


def answer(asked, given):
    try:
        return ("told", asked(*given))
    except TieError as error:
        return ("refused", type(error), vars(error))


def spoil(told):
    if isinstance(told, list):
        told.append("spoilt")
        told.reverse()


class SteadyTest(unittest.TestCase):
    def test_the_same_question_has_the_same_answer(self):
        asked = questions()
        first = [copy.deepcopy(answer(*question)) for question in asked]
        for question in reversed(asked):
            spoil(answer(*question)[1])
        self.assertEqual([answer(*question) for question in asked], first)

    def test_nothing_that_is_handed_in_is_changed(self):
        for asked, given in questions():
            kept = repr(given)
            spoil(answer(asked, given)[1])
            self.assertEqual(repr(given), kept)

    def test_each_refusal_is_of_the_class_that_is_told(self):
        due = {web_of: NoWeb, ties_at: NoPlace, web_for: NoKind}
        refused = [(asked, answer(asked, given)) for asked, given in questions()]
        for asked, told in refused:
            if told[0] == "refused":
                self.assertIs(told[1], due[asked])

    def test_what_was_told_may_be_handed_in_again(self):
        for kind in KINDS:
            web = web_for(kind)
            self.assertIs(is_web(web), True)
            self.assertEqual(web_of(web[0], list(web[1])), web)
            self.assertEqual(len(tie_counts(web)), web[0])

    def test_pieces_spoilt_by_the_asker_leave_sides_alone(self):
        web = WEBS[2]
        spoil(pieces_of(web))
        self.assertEqual(pieces_of(web), [(0, 3, 4), (1, 5), (2,)])
        self.assertEqual(sides_of(web), (0, 0, 0, 1, 1, 1))


class WholesTest(unittest.TestCase):
    def test_truths_and_odd_things_are_no_whole_numbers(self):
        for thing in odd_things():
            due = isinstance(thing, int) and thing is not True and thing is not False
            self.assertIs(is_whole(thing), due)
            self.assertIs(whole_within(thing, -(10 ** 99), 10 ** 99), due)

    def test_edges(self):
        self.assertEqual([whole_within(n, 1, 3) for n in range(6)], [False, True, True, True, False, False])


if __name__ == "__main__":
    unittest.main()
