"""Promises 4.5 and 4.6: papers that show that nothing goes on from a beginning."""

import itertools
import unittest

from tests.things import (
    all_beginnings, all_steps, greatest_web, no_beginnings, odd_things, own_steps, ring_web, row_web, sides_web,
    small_webs, star_web, webs_of, zigzag,
)
from tienumbers.counting import goes_on
from tienumbers.errors import NoNumber, TooGreat
from tienumbers.searches import paper_for, paper_holds

LONE = (1, ())
EDGE = (2, ((0, 1),))
BARE = (40, ())
ROW = (3, ((0, 1), (1, 2)))
RING = (5, ((0, 1), (0, 4), (1, 2), (2, 3), (3, 4)))
FULL = (5, tuple(itertools.combinations(range(5), 2)))
# It has neither a bar nor a steps numbering.
ROW_AND_RING = (6, ((0, 2), (0, 4), (1, 3), (1, 5), (3, 5)))
EVEN = ("bar", ("even",))
PLACES = ("bar", ("places",))


def some_go_on(web, begun):
    return any(numbers[:len(begun)] == begun for numbers in all_steps(web))


def dead_beginnings(web):
    return [begun for begun in all_beginnings(web) if not some_go_on(web, begun)]


def own_clashes(web, begun):
    """Each two ties that clash, of those with both ends among the first places."""
    ready = [k for k, (a, b) in enumerate(web[1]) if a < len(begun) and b < len(begun)]
    steps = own_steps((web[0], tuple(web[1][k] for k in ready)), begun)
    pairs = itertools.combinations(range(len(ready)), 2)
    return [(ready[k], ready[m]) for k, m in pairs if steps[k] == steps[m]]


def late_paper(web, begun):
    """A paper by the test itself, which tells the last clash, and this as late as can be."""
    if len(begun) == web[0]:
        return ("clash",) + own_clashes(web, begun)[-1]
    given = range(len(web[1]) + 1)
    return ("cases", tuple(None if n in begun else late_paper(web, begun + (n,)) for n in given))


def spoilt_papers(web, begun, paper):
    """What comes of a paper that holds when one thing in it is set wrong, at its top or further down."""
    found = [None, list(paper), paper + (None,), paper[:-1], paper[:1], (paper,), [paper], dict(enumerate(paper))]
    found.extend([("case",) + paper[1:], (None,) + paper[1:], (paper[0].upper(),) + paper[1:], (0,) + paper[1:]])
    found.extend([(paper[0], paper), (paper[0], None), (paper[0], ()), (paper[0], True), (paper[0], 0), paper[1:]])
    if paper[0] == "clash":
        i, j = paper[1:]
        found.extend([("clash", j, i), ("clash", i, i), ("clash", j, j), ("clash", i, len(web[1])), ("clash", -1, j)])
        found.extend([("clash", (i, j)), ("clash", i), ("clash", i, j, j), ("clash", str(i), j), ("clash", i, None)])
        found.extend([("clash", i - len(web[1]), j), ("clash", i, 10 ** 99), ("clash", [i], j), ("clash", i, (j,))])
        found.extend([("cases", i, j), ("bar", i, j), ("clash", i == 0, j), ("clash", i, j == 1)])
        found.extend([("clash", False, j), ("clash", i, True)])
    if paper[0] == "cases":
        papers = paper[1]
        found.extend([("cases", list(papers)), ("cases", papers[:-1]), ("cases", papers[1:]), ("cases",) + papers])
        found.extend([("cases", papers + papers[:1]), ("cases", papers + (None,)), ("cases", dict(enumerate(papers)))])
        for number, part in enumerate(papers):
            wrong = [EVEN, PLACES, ("clash", 0, 1), paper, ()]
            if part is not None:
                wrong = spoilt_papers(web, begun + (number,), part)[:9]
            found.extend(("cases", papers[:number] + (thing,) + papers[number + 1:]) for thing in wrong)
    return found


class HoldsTest(unittest.TestCase):
    def test_bars(self):
        self.assertIs(paper_holds(RING, (), EVEN), True)
        self.assertIs(paper_holds(RING, (0, 5, 2), EVEN), True)
        self.assertIs(paper_holds(RING, (0, 5, 1, 4, 2), EVEN), True)
        self.assertIs(paper_holds(RING, (), PLACES), False)
        self.assertIs(paper_holds(BARE, (), PLACES), True)
        self.assertIs(paper_holds(BARE, (0,), PLACES), True)
        self.assertIs(paper_holds(BARE, (), EVEN), False)
        self.assertIs(paper_holds(FULL, (0, 10), EVEN), True)
        self.assertIs(paper_holds(ring_web(4), (), EVEN), False)
        self.assertIs(paper_holds(sides_web(7, 8), (), EVEN), False)

    def test_bars_not_so_told(self):
        wrong = [("bar", "even"), ("bar", ["even"]), ("bar", ("even",), ()), ("bar",), ("bar", ("places",)), ("even",)]
        wrong.extend([["bar", ("even",)], ("Bar", ("even",)), ("bar", ("even", 0)), (("even",), "bar"), ("bar", EVEN)])
        for thing in wrong:
            self.assertIs(paper_holds(RING, (), thing), False, repr(thing))

    def test_clashes(self):
        self.assertIs(paper_holds(ROW, (0, 1, 2), ("clash", 0, 1)), True)
        self.assertIs(paper_holds(ROW, (0, 1, 2), ("clash", 1, 0)), False)
        self.assertIs(paper_holds(ROW, (0, 1, 2), ("clash", 0, 0)), False)
        self.assertIs(paper_holds(ROW, (0, 1, 2), ("clash", 1, 1)), False)
        self.assertIs(paper_holds(ROW, (0, 2, 1), ("clash", 0, 1)), False)
        self.assertIs(paper_holds(ROW, (0, 1), ("clash", 0, 1)), False)
        self.assertIs(paper_holds(ROW, (), ("clash", 0, 1)), False)
        self.assertIs(paper_holds(ROW, (0, 1, 2), ("clash", False, True)), False)
        self.assertIs(paper_holds(ROW, (0, 1, 2), ("clash", 0, 2)), False)
        self.assertIs(paper_holds(ROW, (0, 1, 2), ("clash", -2, -1)), False)
        self.assertIs(paper_holds(ROW, (0, 1, 2), ("clash", -2, 1)), False)

    def test_each_two_numbers_of_a_clash(self):
        webs = [web for web in small_webs() if 1 <= len(web[1]) <= 4] + [RING, ROW_AND_RING]
        for web in webs:
            q = len(web[1])
            for begun in list(all_beginnings(web))[::5]:
                due = own_clashes(web, begun)
                for i, j in itertools.product(range(-q - 1, q + 2), repeat=2):
                    self.assertIs(paper_holds(web, begun, ("clash", i, j)), (i, j) in due, (web, begun, i, j))

    def test_clashes_of_great_webs(self):
        web = star_web(40)
        numbers = tuple(range(1, 40)) + (0,)
        self.assertIs(paper_holds(web, (10, 5, 15), ("clash", 0, 1)), True)
        self.assertIs(paper_holds(web, (10, 5, 15), ("clash", 0, 2)), False)
        self.assertIs(paper_holds(web, numbers, ("clash", 0, 38)), True)
        self.assertIs(paper_holds(web, numbers[:-1], ("clash", 0, 38)), False)
        self.assertIs(paper_holds(web, numbers, ("clash", 1, 38)), False)
        self.assertIs(paper_holds(greatest_web(), (30, 40, 35), ("clash", 0, 38)), True)
        self.assertIs(paper_holds(greatest_web(), (30, 41, 35), ("clash", 0, 38)), False)

    def test_cases_by_hand(self):
        # Ring of three, of which two have 0 and 1: the third one can have 3 alone, 2 clashes.
        web = ring_web(3)
        paper = ("cases", (None, None, ("clash", 0, 2), ("clash", 0, 1)))
        self.assertIs(paper_holds(web, (0, 1), paper), False)
        # With 1 and 2 the third can have neither 0 nor 3.
        paper = ("cases", (("clash", 0, 1), None, None, ("clash", 0, 2)))
        self.assertIs(paper_holds(web, (1, 2), paper), True)
        self.assertIs(paper_holds(web, (2, 1), paper), False)
        self.assertIs(paper_holds(web, (2, 1), ("cases", (("clash", 0, 2), None, None, ("clash", 0, 1)))), True)
        self.assertIs(paper_holds(web, (1,), paper), False)
        self.assertIs(paper_holds(web, (1, 2, 0), paper), False)

    def test_no_number_is_left_but_places_are(self):
        self.assertIs(paper_holds(BARE, (0,), ("cases", (None,))), True)
        self.assertIs(paper_holds(BARE, (), ("cases", (("cases", (None,)),))), True)
        self.assertIs(paper_holds(BARE, (), ("cases", (None,))), False)
        self.assertIs(paper_holds(BARE, (0,), ("cases", ())), False)
        self.assertIs(paper_holds(BARE, (0,), ("cases", (PLACES,))), False)
        self.assertIs(paper_holds(LONE, (0,), ("cases", (None,))), False)
        self.assertIs(paper_holds((3, ((0, 1),)), (1, 0), ("cases", (None, None))), True)
        self.assertIs(paper_holds((3, ((0, 1),)), (1, 0), ("cases", (None, None, None))), False)
        self.assertIs(paper_holds(EDGE, (1, 0), ("cases", (None, None))), False)

    def test_cases_are_for_beginnings_with_a_place_left(self):
        for papers in ((None,) * 6, (EVEN,) * 6, (None,) * 5 + (EVEN,), (None, None, None, EVEN, None, None)):
            self.assertIs(paper_holds(RING, (0, 5, 1, 4, 2), ("cases", papers)), False)
        self.assertIs(paper_holds(RING, (0, 5, 1, 4), ("cases", (None, None, EVEN, EVEN, None, None))), True)

    def test_papers_that_tell_late(self):
        for web in (ROW, row_web(4), row_web(5), ring_web(3), ring_web(4), star_web(4), ROW_AND_RING):
            for begun in dead_beginnings(web)[::7]:
                self.assertIs(paper_holds(web, begun, late_paper(web, begun)), True)

    def test_deep_ones(self):
        web = ring_web(38)
        for last, due in ((EVEN, True), (PLACES, False), (None, False), (("cases", (None,) * 39), False),
                          (("clash", 0, 2), True), (("clash", 0, 1), False), (("clash", 2, 0), False)):
            paper = last
            for depth in range(37, -1, -1):
                paper = ("cases", (None,) * depth + (paper,) + (EVEN,) * (38 - depth))
            self.assertIs(paper_holds(web, (), paper), due, repr(last))

    def test_more_places_than_numbers_and_deep(self):
        web = (40, ring_web(38)[1])
        paper = ("cases", (None,) * 39)
        for depth in range(38, -1, -1):
            paper = ("cases", (None,) * depth + (paper,) + (PLACES,) * (38 - depth))
        self.assertIs(paper_holds(web, (), paper), True)
        self.assertIs(paper_holds(web, (0,), paper[1][0]), True)
        self.assertIs(paper_holds(web, (1,), paper[1][0]), False)

    def test_webs_with_many_ties(self):
        web = greatest_web()
        cases = tuple(None if number in (30, 40) else ("clash", 0, 38) for number in range(61))
        self.assertIs(paper_holds(web, (30, 40), ("cases", cases)), False)
        self.assertIs(paper_holds(FULL, (0, 10, 5), ("clash", 1, 4)), True)
        self.assertIs(paper_holds(FULL, (0, 10, 5), ("clash", 0, 4)), False)

    def test_whatever_is_handed_in(self):
        asked = [(LONE, ()), (LONE, (0,)), (RING, ()), (FULL, (0, 10)), (BARE, ()), (ROW, (0, 1, 2))]
        for web, begun in asked + [(greatest_web(), ())]:
            for thing in odd_things():
                self.assertIs(paper_holds(web, begun, thing), False)
                for word in ("bar", "clash", "cases"):
                    told = [(word, thing), (word, thing, thing), (word, (thing,)), (word, 0, thing), (thing, word)]
                    for paper in told + [[word, thing], {word: thing}, (word, [thing])]:
                        self.assertIs(paper_holds(web, begun, paper), False, repr(paper))

    def test_papers_set_wrong(self):
        for web in (ROW, row_web(4), ring_web(3), ring_web(4), star_web(4)):
            for begun in dead_beginnings(web):
                for paper in (paper_for(web, begun), late_paper(web, begun)):
                    self.assertIs(paper_holds(web, begun, paper), True)
                    for thing in spoilt_papers(web, begun, paper):
                        self.assertIs(paper_holds(web, begun, thing), False, repr(thing))

    def test_none_holds_where_something_goes_on(self):
        for web in (LONE, EDGE, ROW, ring_web(3), ring_web(4), star_web(4)):
            for begun in all_beginnings(web):
                if some_go_on(web, begun):
                    clashes = [("clash", i, j) for i in range(len(web[1])) for j in range(i + 1, len(web[1]))]
                    for leaf in clashes + [EVEN, PLACES]:
                        self.assertIs(paper_holds(web, begun, leaf), False)
                    for leaf in clashes + [EVEN, PLACES, None]:
                        given = tuple(None if n in begun else leaf for n in range(len(web[1]) + 1))
                        self.assertIs(paper_holds(web, begun, ("cases", given)), False)


class PaperForTest(unittest.TestCase):
    def test_each_beginning_of_each_small_web(self):
        for web in small_webs() + [web for web in webs_of(5)[::29] if len(web[1]) <= 5]:
            for begun in all_beginnings(web):
                told = paper_for(web, begun)
                self.assertEqual(told is None, some_go_on(web, begun), (web, begun))
                if told is not None:
                    self.assertIs(paper_holds(web, begun, told), True, (web, begun))

    def test_some_of_greater_webs(self):
        late_star = (8, tuple((leaf, 7) for leaf in range(7)))
        for web in (row_web(8), late_star, ring_web(7), sides_web(2, 3), ring_web(6), ROW_AND_RING):
            for begun in [(), (0,), (0, 5), (5, 0), (4, 2), (3, 1, 2), (0, 1, 2, 3), (5, 4, 3, 2, 1)]:
                told = paper_for(web, begun)
                self.assertEqual(told is None, some_go_on(web, begun), (web, begun))
                self.assertEqual(told is None, goes_on(web, begun) > 0)
                if told is not None:
                    self.assertIs(paper_holds(web, begun, told), True)

    def test_written_out(self):
        self.assertIsNone(paper_for(LONE, ()))
        self.assertIsNone(paper_for(LONE, (0,)))
        self.assertEqual(paper_for(BARE, ()), PLACES)
        self.assertEqual(paper_for(ROW, (0, 1, 2)), ("clash", 0, 1))
        self.assertIsNone(paper_for(row_web(8), zigzag(8)))

    def test_a_web_without_a_bar_that_has_none(self):
        paper = paper_for(ROW_AND_RING, ())
        self.assertEqual(paper[0], "cases")
        self.assertIs(paper_holds(ROW_AND_RING, (), paper), True)
        self.assertIs(paper_holds(ROW_AND_RING, (0,), paper[1][0]), True)
        self.assertIs(paper_holds(ROW_AND_RING, (1,), paper[1][0]), False)

    def test_too_great_ahead_of_all_else(self):
        for web in (row_web(9), sides_web(2, 4), (40, row_web(9)[1]), FULL, greatest_web()):
            for thing in [(), (0,), (0, 0), (-1,)] + odd_things():
                with self.assertRaises(TooGreat) as taken:
                    paper_for(web, thing)
                self.assertIs(type(taken.exception), TooGreat)
                self.assertEqual((taken.exception.many, taken.exception.most), (len(web[1]), 7))


class NoBeginningTest(unittest.TestCase):
    def test_whatever_is_none(self):
        for web in (LONE, (2, ()), ROW, RING, BARE, row_web(8)):
            for begun in no_beginnings(web):
                self.refuse(paper_for, (web, begun))
        for web in (LONE, ROW, RING, BARE, FULL, row_web(9)):
            for begun in no_beginnings(web):
                for thing in (EVEN, PLACES, None, ("cases", (None,))):
                    self.refuse(paper_holds, (web, begun, thing))

    def refuse(self, asked, given):
        with self.assertRaises(NoNumber) as taken:
            asked(*given)
        self.assertIs(type(taken.exception), NoNumber)

    def test_as_many_as_places_at_most(self):
        self.assertIs(paper_holds(FULL, (0, 1, 2, 3, 4), ("clash", 0, 4)), True)
        self.assertRaises(NoNumber, paper_holds, FULL, (0, 1, 2, 3, 4, 5), ("clash", 0, 4))
        self.assertRaises(NoNumber, paper_for, ring_web(3), (0, 1, 2, 3))


if __name__ == "__main__":
    unittest.main()
