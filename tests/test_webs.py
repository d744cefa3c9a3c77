"""Promises 1.1 and 1.2: what a web is, and webs made of ties in any order."""

import itertools
import unittest

from tests.things import (
    all_pairs, deep_things, greatest_web, odd_things, ring_web, row_web, small_webs, unnumbered_things,
)
from tienumbers.errors import NoWeb
from tienumbers.webs import is_web, web_of


class IsWebTest(unittest.TestCase):
    def yes(self, thing):
        self.assertIs(is_web(thing), True, repr(thing))

    def no(self, thing):
        self.assertIs(is_web(thing), False, repr(thing))

    def test_small_webs(self):
        for web in small_webs():
            self.yes(web)

    def test_number_of_places(self):
        for many in range(1, 41):
            self.yes((many, ()))
        for many in (0, -1, -40, 41, 42, 10 ** 99, -(10 ** 99)):
            self.no((many, ()))

    def test_number_of_ties(self):
        pairs = all_pairs(40)
        self.yes((40, tuple(pairs[:59])))
        self.yes((40, tuple(pairs[:60])))
        self.no((40, tuple(pairs[:61])))
        self.no((40, tuple(pairs)))
        self.yes((11, tuple(all_pairs(11))))
        self.no((12, tuple(all_pairs(12))))
        self.yes(greatest_web())

    def test_many_is_a_whole_number(self):
        for many in unnumbered_things():
            self.no((many, ()))
            self.no((many, ((0, 1),)))

    def test_ties_are_a_tuple(self):
        for ties in ([], [(0, 1)], {}, {(0, 1): True}, None, "", "01", 0, True, False):
            self.no((3, ties))

    def test_each_tie_is_a_tuple_of_two(self):
        for tie in odd_things() + [0, 1, 2, [0, 1], {0: 1, 1: 2}, "01", (0,), (), (0, 1, 2), (0, 1, 1)]:
            self.no((3, (tie,)))
            self.no((3, ((0, 1), tie)))
            self.no((3, (tie, (1, 2))))

    def test_ends_are_places(self):
        for end in odd_things() + [3]:
            self.no((3, ((0, end),)))
            self.no((3, ((end, 2),)))
            self.no((3, ((end, end),)))
        self.yes((3, ((1, 2),)))
        self.no((3, ((1, 3),)))
        self.no((3, ((-1, 1),)))
        self.yes((40, ((38, 39),)))
        self.no((40, ((38, 40),)))

    def test_truths_are_no_places(self):
        self.no((3, ((False, 1),)))
        self.no((3, ((0, True),)))
        self.no((3, ((False, True),)))
        self.no((3, ((True, 2),)))

    def test_ends_rise(self):
        self.no((3, ((1, 0),)))
        self.no((3, ((2, 1),)))
        self.no((3, ((0, 1), (2, 1))))
        for place in range(3):
            self.no((3, ((place, place),)))
        self.no((1, ((0, 0),)))

    def test_ties_rise(self):
        self.no((3, ((0, 1), (0, 1))))
        self.no((3, ((0, 2), (0, 1))))
        self.no((3, ((1, 2), (0, 1))))
        self.no((3, ((0, 1), (1, 2), (0, 2))))
        self.no((3, ((0, 1), (0, 2), (0, 2))))
        self.yes((3, ((0, 1), (0, 2), (1, 2))))

    def test_ties_in_another_order_are_no_web(self):
        pairs = tuple(all_pairs(3))
        for ties in itertools.permutations(pairs):
            self.assertIs(is_web((3, ties)), ties == pairs)

    def test_a_web_is_a_tuple_of_two(self):
        self.no([3, ()])
        self.no((3,))
        self.no((3, (), ()))
        self.no((3, ((0, 1),), None))
        self.no({3: ()})
        self.no(((), 3))

    def test_odd_things(self):
        for thing in odd_things():
            self.no(thing)
            self.no((thing, thing))
            if thing != ():
                self.no((3, thing))


class WebOfTest(unittest.TestCase):
    def refused(self, many, things, number):
        with self.assertRaises(NoWeb) as taken:
            web_of(many, things)
        self.assertIs(type(taken.exception), NoWeb)
        self.assertEqual(taken.exception.number, number, (many, things))

    def test_ties_in_order_make_the_web_they_tell(self):
        for web in small_webs() + [greatest_web(), row_web(40), ring_web(40)]:
            self.assertEqual(web_of(web[0], list(web[1])), web)

    def test_ties_in_any_order_and_either_way_about(self):
        for ties in itertools.permutations([(0, 1), (0, 3), (1, 2)]):
            for turns in itertools.product((1, -1), repeat=3):
                told = [tie[::turn] for tie, turn in zip(ties, turns)]
                self.assertEqual(web_of(4, told), (4, ((0, 1), (0, 3), (1, 2))))

    def test_many_ties_turned_and_told_from_behind(self):
        web = greatest_web()
        told = [(b, a) for a, b in reversed(web[1])]
        self.assertEqual(web_of(40, told), web)

    def test_no_ties(self):
        for many in (1, 2, 40):
            self.assertEqual(web_of(many, []), (many, ()))

    def test_what_is_made_is_a_web_of_tuples(self):
        web = web_of(3, [(2, 1), (1, 0)])
        self.assertIs(is_web(web), True)
        self.assertEqual(repr(web), "(3, ((0, 1), (1, 2)))")

    def test_no_number_of_places(self):
        for many in unnumbered_things() + [0, -1, 41, 10 ** 99, -(10 ** 99)]:
            self.refused(many, [], -1)
            self.refused(many, [(0, 1)], -1)
            self.refused(many, [None, (0, 1), (0, 1)], -1)

    def test_number_of_places_goes_ahead_of_the_things(self):
        self.refused(True, [(0, 0)], -1)
        self.refused(0, [None], -1)
        self.refused(41, all_pairs(41)[:61], -1)

    def test_things_that_are_no_tuples_of_two(self):
        for thing in odd_things() + [0, 1, [0, 1], {0: 1, 1: 0}, "01", (0, 1, 2), (0, 1, 1)]:
            self.refused(4, [thing], 0)
            self.refused(4, [(1, 2), (3, 2), thing, None, thing], 2)

    def test_ends_that_are_no_places(self):
        for end in odd_things() + [4]:
            self.refused(4, [(2, 3), (0, end)], 1)
            self.refused(4, [(2, 3), (end, 0)], 1)
            self.refused(4, [(2, 3), (end, end)], 1)

    def test_truths_are_no_places(self):
        self.refused(4, [(True, 2)], 0)
        self.refused(4, [(0, 2), (0, True)], 1)
        self.refused(4, [(False, 3)], 0)
        self.refused(4, [(0, 2), (3, False)], 1)

    def test_one_place_tied_to_itself(self):
        for place in range(4):
            self.refused(4, [(0, 1), (place, place)], 1)
        self.refused(1, [(0, 0)], 0)

    def test_a_tie_told_twice(self):
        self.refused(4, [(0, 1), (0, 1)], 1)
        self.refused(4, [(0, 1), (1, 0)], 1)
        self.refused(4, [(1, 0), (0, 1)], 1)
        self.refused(4, [(1, 0), (2, 3), (0, 2), (3, 2), (1, 0)], 3)

    def test_the_sixty_first_thing(self):
        pairs = all_pairs(40)
        self.assertEqual(web_of(40, pairs[:60]), (40, tuple(pairs[:60])))
        self.refused(40, pairs[:61], 60)
        self.refused(40, pairs, 60)
        self.refused(40, pairs[:60] + [None], 60)
        self.refused(40, pairs[:60] + [pairs[0]], 60)
        self.refused(12, all_pairs(12), 60)

    def test_an_earlier_thing_goes_ahead_of_the_sixty_first(self):
        pairs = all_pairs(40)
        self.refused(40, pairs[:59] + [None] + pairs[60:62], 59)
        self.refused(40, pairs[:59] + [pairs[58]] + pairs[60:62], 59)
        self.refused(40, [(0, 0)] + pairs, 0)

    def test_the_first_of_several_goes(self):
        self.refused(4, [(0, 1), (1, 0), None, (2, 2)], 1)
        self.refused(4, [(0, 1), (2, 2), (1, 0)], 1)
        self.refused(4, [(0, 1), (0, 9), (1, 0)], 1)

    def test_what_is_handed_in_stays_as_it_was(self):
        told = [(2, 1), (0, 3), (1, 0)]
        kept = list(told)
        web = web_of(4, told)
        self.assertEqual(told, kept)
        told.append((0, 2))
        told[0] = None
        self.assertEqual(web, (4, ((0, 1), (0, 3), (1, 2))))
        self.assertEqual(web_of(4, kept), web)

    def test_what_is_refused_stays_as_it_was(self):
        inner = [0, 1]
        told = [(2, 1), (1, 0), inner, {0: inner}] + deep_things()
        kept = repr(told)
        self.refused(4, told, 2)
        self.assertEqual(repr(told), kept)
        self.assertEqual(web_of(4, told[:2]), (4, ((0, 1), (1, 2))))


if __name__ == "__main__":
    unittest.main()
