"""Promises 3.1 to 3.4: steps numberings made for spines, rings and sides, and webs grown."""

import itertools
import unittest

from tests.things import (
    NO_KINDS, all_rings, all_sides, all_steps, fans_and_wheels, full_kinds, many_spines, odd_things, own_good, own_parting,
    own_steps, ring_web, row_web, sides_numbers, sides_web, small_webs, star_web, zigzag,
)
from tienumbers.errors import NoKind, NoWeb
from tienumbers.kinds import kind_good, web_for
from tienumbers.making import grown_above, grown_steps, parted_for, steps_for
from tienumbers.steps import step_bar_holds
from tienumbers.webs import is_web

OTHER_KINDS = full_kinds() + fans_and_wheels()
SPINES = many_spines() + [("spine", legs) for legs in itertools.product(range(4), repeat=5)] + [("spine", (0,))]


class StepsForTest(unittest.TestCase):
    def look(self, kind):
        told = steps_for(kind)
        self.assertIs(type(told), tuple)
        self.assertEqual((len(told), told[0]), (2, "numbering"))
        web = web_for(kind)
        self.assertTrue(own_good(web, told[1]), kind)
        self.assertEqual(sum(own_steps(web, told[1])), len(web[1]) * (len(web[1]) + 1) // 2)

    def test_each_spine(self):
        for kind in SPINES:
            self.look(kind)

    def test_the_spine_of_one_place(self):
        self.assertEqual(steps_for(("spine", (0,))), ("numbering", (0,)))

    def test_each_sides(self):
        for kind in all_sides():
            self.look(kind)

    def test_each_ring(self):
        for n in range(3, 41):
            if n % 4 == 0 or (n + 1) % 4 == 0:
                self.look(("ring", n))
                self.assertFalse(any(step_bar_holds(ring_web(n), bar) for bar in (("places",), ("even",))))
            else:
                self.assertEqual(steps_for(("ring", n)), ("bar", ("even",)))
                self.assertTrue(step_bar_holds(ring_web(n), ("even",)))

    def test_rings_by_looking_for_all(self):
        for n in range(3, 8):
            self.assertEqual(steps_for(("ring", n))[0], "numbering" if all_steps(ring_web(n)) else "bar")

    def test_what_is_refused(self):
        for thing in OTHER_KINDS + NO_KINDS + odd_things():
            with self.assertRaises(NoKind) as taken:
                steps_for(thing)
            self.assertIs(type(taken.exception), NoKind, repr(thing))

    def test_other_kinds_are_kinds(self):
        self.assertTrue(all(kind_good(kind) for kind in OTHER_KINDS))


class PartedForTest(unittest.TestCase):
    def test_each_spine_and_sides(self):
        for kind in SPINES + all_sides():
            if kind != ("spine", (0,)):
                web = web_for(kind)
                told = parted_for(kind)
                self.assertTrue(own_good(web, told), kind)
                self.assertEqual(len(own_parting(web, told)), 1, kind)

    def test_what_is_refused(self):
        for thing in all_rings() + [("spine", (0,))] + OTHER_KINDS + NO_KINDS + odd_things():
            with self.assertRaises(NoKind) as taken:
                parted_for(thing)
            self.assertIs(type(taken.exception), NoKind, repr(thing))


class GrownTest(unittest.TestCase):
    def look_low(self, web, numbers, count):
        told = grown_steps(web, numbers, count)
        self.assertIs(type(told), tuple)
        grown, given = told
        new = range(web[0], web[0] + count)
        self.assertEqual(grown, (web[0] + count, tuple(sorted(web[1] + tuple((numbers.index(0), k) for k in new)))))
        q = len(web[1])
        self.assertEqual(given, numbers + tuple(range(q + 1, q + count + 1)))
        self.assertTrue(is_web(grown) and own_good(grown, given))
        return told

    def look_high(self, web, numbers, count):
        told = grown_above(web, numbers, count)
        self.assertIs(type(told), tuple)
        grown, given = told
        q = len(web[1])
        new = range(web[0], web[0] + count)
        self.assertEqual(grown, (web[0] + count, tuple(sorted(web[1] + tuple((numbers.index(q), k) for k in new)))))
        self.assertEqual(given, tuple(n + count for n in numbers) + tuple(range(count))[::-1])
        self.assertTrue(is_web(grown) and own_good(grown, given))
        return told

    def test_written_out(self):
        web = (3, ((0, 1), (0, 2), (1, 2)))
        grown = (5, ((0, 1), (0, 2), (1, 2), (1, 3), (1, 4)))
        self.assertEqual(grown_steps(web, (1, 0, 3), 2), (grown, (1, 0, 3, 4, 5)))
        grown = (5, ((0, 1), (0, 2), (1, 2), (2, 3), (2, 4)))
        self.assertEqual(grown_above(web, (1, 0, 3), 2), (grown, (3, 2, 5, 1, 0)))
        self.assertEqual(grown_steps((1, ()), (0,), 1), ((2, ((0, 1),)), (0, 1)))
        self.assertEqual(grown_above((1, ()), (0,), 1), ((2, ((0, 1),)), (1, 0)))
        self.assertEqual(grown_above((1, ()), (0,), 3), (star_web(4), (3, 2, 1, 0)))

    def test_by_none_it_is_as_it_was(self):
        for held in (((1, ()), (0,)), (row_web(40), zigzag(40)), (sides_web(6, 10), sides_numbers(6, 10))):
            self.assertEqual(grown_steps(*held, 0), held)
            self.assertEqual(grown_above(*held, 0), held)

    def test_small_webs_by_one_and_by_many(self):
        for web in small_webs():
            for numbers in all_steps(web):
                for count in (1, 2, 5, 40 - web[0]):
                    self.look_low(web, numbers, count)
                    self.look_high(web, numbers, count)

    def test_again_and_again_from_one_place(self):
        for deeds in itertools.product((0, 1), (1, 2, 3), (0, 1), (1, 4), (0, 1), (2, 5)):
            held = ((1, ()), (0,))
            for above, count in zip(deeds[::2] * 3, deeds[1::2] * 3):
                if held[0][0] + count <= 40:
                    held = self.look_high(*held, count) if above else self.look_low(*held, count)

    def test_one_by_one_to_the_last(self):
        held = ((1, ()), (0,))
        for k in range(39):
            held = self.look_high(*held, 1) if k % 2 else self.look_low(*held, 1)
        for asked in (grown_steps, grown_above):
            self.refuse(asked, held, 1, 0)

    def test_room_by_places(self):
        for many in (1, 2, 7, 39, 40):
            held = (row_web(many), zigzag(many))
            if many < 40:
                self.look_low(*held, 40 - many)
                self.look_high(*held, 40 - many)
            for asked in (grown_steps, grown_above):
                for more in (1, 2, 30, 10 ** 9, 10 ** 99):
                    self.refuse(asked, held, 40 - many + more, 40 - many)

    def test_room_by_ties(self):
        for m, n in ((7, 8), (6, 10), (10, 6), (5, 11), (4, 14), (7, 7), (2, 30)):
            held = (sides_web(m, n), sides_numbers(m, n))
            room = min(60 - m * n, 40 - m - n)
            if room:
                self.look_low(*held, room)
                self.look_high(*held, room)
            for asked in (grown_steps, grown_above):
                for more in (1, 2, 50):
                    self.refuse(asked, held, room + more, room)

    def refuse(self, asked, held, count, number):
        with self.assertRaises(NoWeb) as taken:
            asked(held[0], held[1], count)
        self.assertIs(type(taken.exception), NoWeb)
        self.assertEqual(taken.exception.number, number)


if __name__ == "__main__":
    unittest.main()
