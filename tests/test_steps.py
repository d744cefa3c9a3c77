"""Promises 2.1 to 2.6: steps, steps numberings, bars, and webs joined."""

import itertools
import unittest

from tests.things import (
    all_steps, greatest_web, odd_things, own_good, own_parting, own_steps, ring_web, row_web, sides_numbers, sides_web,
    small_webs, spoilt_numberings, star_web, webs_of, zigzag,
)
from tienumbers.errors import NoNumber, TooGreat
from tienumbers.steps import (
    half_turned, joined_webs, mirrored_steps, parted_at, step_bar, step_bar_holds, steps_good, steps_of,
)
from tienumbers.webs import is_web

LONE = (1, ())
BARE = (3, ())
TRIANGLE = (3, ((0, 1), (0, 2), (1, 2)))
ROW = (4, ((0, 1), (1, 2), (2, 3)))
BARS = [("places",), ("even",)]


def numbered_webs():
    """Webs, each with a steps numbering: all of the small ones, and great ones."""
    some_of_five = [web for web in webs_of(5)[::11] if len(web[1]) <= 7]
    found = [(web, numbers) for web in small_webs() + some_of_five for numbers in all_steps(web)]
    return found + great_ones()


def great_ones():
    found = [(row_web(many), zigzag(many)) for many in (20, 39, 40)]
    found.extend((sides_web(m, n), sides_numbers(m, n)) for m, n in ((1, 39), (39, 1), (2, 30), (6, 10), (7, 8)))
    return found


def parted_webs():
    return [(web, numbers) for web, numbers in numbered_webs() if own_parting(web, numbers)]


class StepsOfTest(unittest.TestCase):
    def test_written_out(self):
        self.assertEqual(steps_of(ROW, (0, 3, 1, 2)), [3, 2, 1])
        self.assertEqual(steps_of(ROW, (5, 5, 5, 5)), [0, 0, 0])
        self.assertEqual(steps_of(ROW, (-5, 5, -7, -7)), [10, 12, 0])
        self.assertEqual(steps_of(TRIANGLE, (-1, -4, 2)), [3, 3, 6])
        self.assertEqual(steps_of(LONE, (12,)), [])
        self.assertEqual(steps_of(BARE, (1, 1, -1)), [])

    def test_great_numbers(self):
        great = 10 ** 100 - 1
        self.assertEqual(steps_of(ROW, (great, 0, -great, great)), [great, great, 2 * great])
        self.assertEqual(steps_of(ROW, (great - 1, great, 1 - great, -great)), [1, 2 * great - 1, 1])

    def test_in_the_order_of_the_ties(self):
        web = (5, ((0, 4), (1, 2), (1, 4), (3, 4)))
        self.assertEqual(steps_of(web, (100, 20, 3, 7, 1)), [99, 17, 19, 6])
        for web in small_webs() + [greatest_web()]:
            for numbers in (tuple(range(web[0])), tuple(7 - place ** 3 for place in range(web[0]))):
                told = steps_of(web, numbers)
                self.assertIsInstance(told, list)
                self.assertEqual(told, own_steps(web, numbers))

    def test_what_is_refused(self):
        for web in (LONE, BARE, ROW, TRIANGLE, greatest_web()):
            plain = (3,) * web[0]
            wrong = [list(plain), plain + (3,), plain[:-1], (plain,), dict(enumerate(plain)), "3" * web[0]]
            for odd in (True, False, None, "3", (3,), [3], {3: 3}):
                wrong.extend([(odd,) + plain[1:], plain[:-1] + (odd,)])
            wrong.extend(thing for thing in odd_things() if thing not in ((0,), (1,)))
            if web[0] > 1:
                wrong.extend([(0,), (1,)])
            for thing in wrong:
                with self.assertRaises(NoNumber) as taken:
                    steps_of(web, thing)
                self.assertIs(type(taken.exception), NoNumber)

    def test_the_list_is_the_askers_own(self):
        told = steps_of(ROW, (0, 3, 1, 2))
        told.append(9)
        told[0] = 8
        self.assertEqual(steps_of(ROW, (0, 3, 1, 2)), [3, 2, 1])


class StepsGoodTest(unittest.TestCase):
    def test_written_out(self):
        self.assertIs(steps_good(LONE, (0,)), True)
        self.assertIs(steps_good(LONE, (1,)), False)
        self.assertIs(steps_good(LONE, (False,)), False)
        self.assertIs(steps_good(LONE, ()), False)
        self.assertIs(steps_good((2, ()), (0, 0)), False)
        self.assertIs(steps_good((2, ()), (0, 1)), False)
        self.assertIs(steps_good((2, ((0, 1),)), (0, 1)), True)
        self.assertIs(steps_good((2, ((0, 1),)), (False, True)), False)
        self.assertIs(steps_good(ROW, (0, 3, 1, 2)), True)
        self.assertIs(steps_good(ROW, (3, 0, 1, 2)), False)
        self.assertIs(steps_good(ROW, (1, 4, 2, 3)), False)
        self.assertIs(steps_good(ROW, (-3, 0, -2, -1)), False)
        self.assertIs(steps_good((3, ((0, 1), (1, 2))), (2, 0, 2)), False)
        self.assertIs(steps_good((3, ((0, 1), (1, 2))), (0, 2, 0)), False)

    def test_places_without_ties(self):
        web = (4, ((0, 1), (0, 3), (1, 3)))
        self.assertIs(steps_good(web, (0, 1, 2, 3)), True)
        self.assertIs(steps_good(web, (0, 1, 1, 3)), False)
        self.assertIs(steps_good(web, (0, 1, 4, 3)), False)
        self.assertIs(steps_good(web, (0, 1, None, 3)), False)
        self.assertIs(steps_good(web, (0, 1, True, 3)), False)

    def test_each_way_of_each_small_web(self):
        for web in small_webs():
            if len(web[1]) <= 4:
                for numbers in itertools.product(range(-1, len(web[1]) + 2), repeat=web[0]):
                    self.assertIs(steps_good(web, numbers), own_good(web, numbers), (web, numbers))

    def test_great_ones(self):
        for web, numbers in great_ones():
            self.assertTrue(is_web(web))
            self.assertIs(steps_good(web, numbers), True)

    def test_what_comes_near(self):
        for web, numbers in [(LONE, (0,)), (ROW, (0, 3, 1, 2)), (TRIANGLE, (3, 0, 1))] + great_ones()[::3]:
            for thing in spoilt_numberings(web, numbers):
                self.assertIs(steps_good(web, thing), False, repr(thing))


class MirroredTest(unittest.TestCase):
    def test_written_out(self):
        self.assertEqual(mirrored_steps(ROW, (0, 3, 1, 2)), (3, 0, 2, 1))
        self.assertEqual(mirrored_steps(LONE, (0,)), (0,))
        self.assertEqual(mirrored_steps((4, TRIANGLE[1]), (0, 1, 3, 2)), (3, 2, 0, 1))

    def test_each_one(self):
        for web, numbers in numbered_webs():
            told = mirrored_steps(web, numbers)
            self.assertEqual(told, tuple(len(web[1]) - number for number in numbers))
            self.assertTrue(own_good(web, told))
            self.assertEqual(mirrored_steps(web, told), numbers)


class PartedTest(unittest.TestCase):
    def test_written_out(self):
        self.assertEqual(parted_at(ROW, (0, 3, 1, 2)), 1)
        self.assertEqual(parted_at((2, ((0, 1),)), (0, 1)), 0)
        self.assertEqual(parted_at(star_web(6), (0, 1, 2, 3, 4, 5)), 0)
        self.assertEqual(parted_at(star_web(6), (5, 4, 3, 2, 1, 0)), 4)
        self.assertIsNone(parted_at(TRIANGLE, (0, 1, 3)))
        self.assertIsNone(parted_at(LONE, (0,)))
        self.assertIsNone(parted_at((5, ((0, 1), (1, 2), (2, 3), (3, 4))), (3, 2, 0, 4, 1)))

    def test_each_one(self):
        for web, numbers in numbered_webs():
            due = own_parting(web, numbers)
            self.assertLessEqual(len(due), 1)
            self.assertEqual(parted_at(web, numbers), due[0] if due else None)

    def test_mirrored(self):
        for web, numbers in parted_webs():
            t = parted_at(web, numbers)
            self.assertEqual(parted_at(web, mirrored_steps(web, numbers)), len(web[1]) - 1 - t)


class HalfTurnedTest(unittest.TestCase):
    def test_written_out(self):
        self.assertEqual(half_turned(ROW, (0, 3, 1, 2)), (1, 2, 0, 3))
        self.assertEqual(half_turned(star_web(4), (0, 1, 2, 3)), (0, 3, 2, 1))
        self.assertEqual(half_turned((2, ((0, 1),)), (1, 0)), (1, 0))

    def test_each_parted_one(self):
        for web, numbers in parted_webs():
            q = len(web[1])
            t = own_parting(web, numbers)[0]
            told = half_turned(web, numbers)
            self.assertEqual(told, tuple(t - n if n <= t else q + t + 1 - n for n in numbers))
            self.assertTrue(own_good(web, told))
            self.assertEqual(half_turned(web, told), numbers)

    def test_what_is_not_parted_is_refused(self):
        refused = [(web, numbers) for web, numbers in numbered_webs() if not own_parting(web, numbers)]
        self.assertIn((LONE, (0,)), refused)
        self.assertIn((TRIANGLE, (0, 1, 3)), refused)
        for web, numbers in refused:
            with self.assertRaises(NoNumber):
                half_turned(web, numbers)


class NoNumberingTest(unittest.TestCase):
    def test_whatever_is_none(self):
        some = [(LONE, (0,)), (ROW, (0, 3, 1, 2)), (TRIANGLE, (3, 0, 1)), (row_web(40), zigzag(40))]
        for web, numbers in some:
            for thing in spoilt_numberings(web, numbers):
                for asked in (mirrored_steps, parted_at, half_turned):
                    with self.assertRaises(NoNumber) as taken:
                        asked(web, thing)
                    self.assertIs(type(taken.exception), NoNumber)

    def test_webs_that_have_none(self):
        for web in (BARE, (2, ()), ring_web(5), greatest_web()):
            for thing in [(0,) * web[0], tuple(range(web[0])), ()] + odd_things():
                for asked in (mirrored_steps, parted_at, half_turned):
                    self.assertRaises(NoNumber, asked, web, thing)


class BarTest(unittest.TestCase):
    def own_bars(self, web):
        q = len(web[1])
        even = all(sum(place in tie for tie in web[1]) % 2 == 0 for place in range(web[0]))
        return [bar for bar, due in zip(BARS, (web[0] - 1 > q, even and sum(range(q + 1)) % 2)) if due]

    def tried(self):
        return small_webs() + webs_of(5) + [ring_web(n) for n in range(3, 41)] + [greatest_web(), (40, ()), row_web(40)]

    def test_written_out(self):
        self.assertIsNone(step_bar(LONE))
        self.assertEqual(step_bar((2, ())), ("places",))
        self.assertEqual(step_bar((40, ())), ("places",))
        self.assertIsNone(step_bar(row_web(40)))
        self.assertIsNone(step_bar(TRIANGLE))
        self.assertEqual(step_bar(ring_web(5)), ("even",))
        self.assertEqual(step_bar((4, ((0, 1), (2, 3)))), ("places",))
        self.assertEqual(step_bar((6, ring_web(5)[1])), ("even",))

    def test_places_without_ties_are_even(self):
        web = (6, ring_web(5)[1])
        self.assertIs(step_bar_holds(web, ("even",)), True)
        self.assertIs(step_bar_holds(web, ("places",)), False)

    def test_both_at_once(self):
        web = (8, ring_web(5)[1])
        self.assertIs(step_bar_holds(web, ("even",)), True)
        self.assertIs(step_bar_holds(web, ("places",)), True)
        self.assertEqual(step_bar(web), ("places",))

    def test_edge_of_places(self):
        for many in range(1, 40):
            self.assertIs(step_bar_holds((many, ((0, 1),) if many > 1 else ()), ("places",)), many > 2)

    def test_each_web(self):
        for web in self.tried():
            due = self.own_bars(web)
            self.assertEqual(step_bar(web), due[0] if due else None, web)
            for bar in BARS:
                self.assertIs(step_bar_holds(web, bar), bar in due, web)

    def test_whatever_else_is_none(self):
        near = ["places", "even", ["places"], ["even"], ("Places",), ("places ",), ("even", "even"), ("places", "even")]
        near.extend([("places", 1), ("even", None), ("even", ()), (("even",),), (("places",),), ("odd",), ("",), ()])
        near.extend([{"even": 1}, {"places": True}, ("bar", ("even",)), (["even"],), (None,), (True,), (0,), "e", "p"])
        for web in (LONE, (2, ()), (8, ring_web(5)[1]), ring_web(5), ring_web(38), greatest_web()):
            for thing in near + odd_things():
                self.assertIs(step_bar_holds(web, thing), False, repr(thing))

    def test_no_web_has_both_a_bar_and_a_numbering(self):
        for web in small_webs() + webs_of(5):
            if self.own_bars(web) and len(web[1]) < 8:
                self.assertEqual(all_steps(web), ())
        for web, numbers in numbered_webs():
            self.assertIsNone(step_bar(web))


class JoinedTest(unittest.TestCase):
    def test_written_out(self):
        told = joined_webs(ROW, (0, 3, 1, 2), TRIANGLE, (1, 0, 3))
        self.assertEqual(told, ((6, ((0, 1), (1, 2), (2, 3), (2, 4), (2, 5), (4, 5))), (0, 6, 1, 5, 2, 4)))
        told = joined_webs((2, ((0, 1),)), (1, 0), (2, ((0, 1),)), (1, 0))
        self.assertEqual(told, ((3, ((0, 1), (1, 2))), (2, 0, 1)))

    def test_one_place_joined_changes_nothing(self):
        for web, numbers in parted_webs():
            self.assertEqual(joined_webs(web, numbers, LONE, (0,)), (web, numbers))

    def test_each_two(self):
        firsts = parted_webs()[::5]
        for web, numbers in firsts:
            for other, others in numbered_webs()[::17] + firsts[::7]:
                places = web[0] + other[0] - 1
                if places <= 40 and len(web[1]) + len(other[1]) <= 60:
                    self.look(web, numbers, other, others)

    def look(self, web, numbers, other, others):
        t = own_parting(web, numbers)[0]
        told = joined_webs(web, numbers, other, others)
        self.assertIs(type(told), tuple)
        joined, given = told
        self.assertTrue(is_web(joined))
        self.assertTrue(own_good(joined, given))
        moved = [place for place in range(other[0]) if others[place] != 0]
        seat = {place: web[0] + k for k, place in enumerate(moved)}
        seat[others.index(0)] = numbers.index(t)
        ties = list(web[1]) + [tuple(sorted((seat[a], seat[b]))) for a, b in other[1]]
        self.assertEqual(joined, (web[0] + other[0] - 1, tuple(sorted(ties))))
        kept = tuple(n if n <= t else n + len(other[1]) for n in numbers)
        self.assertEqual(given, kept + tuple(others[place] + t for place in moved))
        due = own_parting(other, others)
        if due:
            self.assertEqual(parted_at(joined, given), t + due[0])

    def test_forty_places_and_one_more(self):
        told = joined_webs(row_web(20), zigzag(20), row_web(21), zigzag(21))
        self.assertEqual(told[0][0], 40)
        self.assertTrue(own_good(*told))
        self.refuse((row_web(20), zigzag(20), row_web(22), zigzag(22)), 41, 40)
        self.refuse((row_web(40), zigzag(40), row_web(40), zigzag(40)), 79, 40)

    def test_sixty_ties_and_one_more(self):
        told = joined_webs(sides_web(5, 6), sides_numbers(5, 6), sides_web(6, 5), sides_numbers(6, 5))
        self.assertEqual(len(told[0][1]), 60)
        self.assertTrue(own_good(*told))
        self.refuse((sides_web(5, 5), sides_numbers(5, 5), sides_web(6, 6), sides_numbers(6, 6)), 61, 60)
        self.refuse((sides_web(7, 8), sides_numbers(7, 8), sides_web(6, 10), sides_numbers(6, 10)), 116, 60)

    def test_places_go_ahead_of_ties(self):
        self.refuse((sides_web(2, 30), sides_numbers(2, 30), sides_web(2, 10), sides_numbers(2, 10)), 43, 40)

    def refuse(self, given, many, most):
        with self.assertRaises(TooGreat) as taken:
            joined_webs(*given)
        self.assertIs(type(taken.exception), TooGreat)
        self.assertEqual((taken.exception.many, taken.exception.most), (many, most))

    def test_what_is_no_numbering_goes_ahead_of_too_great(self):
        great = (row_web(40), zigzag(40))
        ties = (sides_web(6, 10), sides_numbers(6, 10))
        for web, numbers in (great, ties):
            for other, others in (great, ties, (ROW, (0, 3, 1, 2))):
                for thing in odd_things() + [list(others), others[:-1], others + (0,), others[1:] + others[:1]]:
                    self.assertRaises(NoNumber, joined_webs, web, numbers, other, thing)
                for thing in odd_things() + [list(numbers), numbers[:-1], numbers + (0,), numbers[1:] + numbers[:1]]:
                    self.assertRaises(NoNumber, joined_webs, web, thing, other, others)

    def test_the_first_must_be_parted(self):
        for web, numbers in ((LONE, (0,)), (TRIANGLE, (0, 1, 3))):
            for other, others in ((LONE, (0,)), (ROW, (0, 3, 1, 2)), (row_web(40), zigzag(40))):
                self.assertRaises(NoNumber, joined_webs, web, numbers, other, others)

    def test_the_other_need_not_be_parted(self):
        told = joined_webs(ROW, (0, 3, 1, 2), TRIANGLE, (0, 1, 3))
        self.assertTrue(own_good(*told))
        self.assertIsNone(parted_at(*told))


if __name__ == "__main__":
    unittest.main()
