"""Promises 4.1 to 4.4 and 4.6: steps numberings counted, ranked, followed and tallied, against going through all."""

import unittest

from tests.things import (
    all_beginnings, all_steps, greatest_web, no_beginnings, odd_things, ring_web, row_web, sides_web, small_webs,
    spoilt_numberings, star_web, unnumbered_things, webs_of, zigzag,
)
from tienumbers.counting import goes_on, next_numbers, next_steps, nth_steps, rank_of, steps_count, tally_at
from tienumbers.errors import NoNumber, NoPlace, TooGreat
from tienumbers.steps import mirrored_steps

LONE = (1, ())
EDGE = (2, ((0, 1),))
BARE = (40, ())
# The hub comes last, so that no tie has both ends among the first places.
LATE_STAR = (8, tuple((leaf, 7) for leaf in range(7)))
SPIDER = (8, ((0, 1), (0, 4), (0, 6), (1, 2), (2, 3), (4, 5), (6, 7)))
FULL_AND_LOOSE = (7, ((2, 3), (2, 4), (2, 5), (3, 4), (3, 5), (4, 5)))
TWO_PIECES = (8, ((0, 7), (1, 2), (1, 3), (1, 4), (2, 3), (2, 4), (3, 4)))
LOOSE_FIRST = (6, ((1, 2), (1, 5), (2, 3), (2, 4), (3, 4), (3, 5), (4, 5)))
FEW_AMONG_MANY = (40, ((0, 39), (3, 17), (17, 20)))
GREATER = [
    row_web(8), star_web(8), LATE_STAR, SPIDER, FULL_AND_LOOSE, TWO_PIECES, LOOSE_FIRST, ring_web(7), ring_web(6),
    sides_web(2, 3),
]


def counted_webs():
    some = [web for web in webs_of(5)[::13] if len(web[1]) <= 7]
    return small_webs() + some + GREATER


def small_ones():
    return [web for web in counted_webs() if len(web[1]) <= 5]


def begun_so(web, begun):
    return [numbers for numbers in all_steps(web) if numbers[:len(begun)] == begun]


class TooGreatTest(unittest.TestCase):
    def test_eight_ties_and_more_ahead_of_all_else(self):
        for web in (row_web(9), ring_web(8), sides_web(2, 4), (40, row_web(9)[1]), ring_web(40), greatest_web()):
            for thing in odd_things() + [(0,), zigzag(web[0]), 0, web[0], tuple(range(web[0]))]:
                for asked in (nth_steps, rank_of, next_steps, goes_on, next_numbers, tally_at):
                    self.refuse(asked, (web, thing), len(web[1]))
            self.refuse(steps_count, (web,), len(web[1]))

    def refuse(self, asked, given, many):
        with self.assertRaises(TooGreat) as taken:
            asked(*given)
        self.assertIs(type(taken.exception), TooGreat)
        self.assertEqual((taken.exception.many, taken.exception.most), (many, 7))

    def test_seven_ties_are_few_enough(self):
        self.assertEqual(steps_count(row_web(8)), 40)
        self.assertEqual(steps_count(star_web(8)), 10080)
        self.assertEqual(steps_count(LATE_STAR), 10080)
        self.assertEqual(steps_count((40, row_web(8)[1])), 0)


class CountTest(unittest.TestCase):
    def test_written_out(self):
        self.assertEqual(steps_count(LONE), 1)
        self.assertEqual(steps_count((2, ())), 0)
        self.assertEqual(steps_count(BARE), 0)
        self.assertEqual(steps_count(EDGE), 2)
        self.assertEqual([steps_count(row_web(many)) for many in range(1, 9)], [1, 2, 4, 4, 8, 24, 32, 40])
        self.assertEqual(steps_count(ring_web(3)), 12)
        self.assertEqual(steps_count(ring_web(5)), 0)

    def test_each_web(self):
        for web in counted_webs():
            count = steps_count(web)
            self.assertEqual(count, len(all_steps(web)), web)
            self.assertIs(type(count), int)

    def test_an_even_number_where_there_is_a_tie(self):
        for web in counted_webs():
            if web[1]:
                self.assertEqual(steps_count(web) % 2, 0)


class NthTest(unittest.TestCase):
    def test_all_of_each_small_web(self):
        for web in [web for web in small_ones() if len(all_steps(web)) <= 24]:
            for number, numbers in enumerate(all_steps(web)):
                self.assertEqual(nth_steps(web, number), numbers)
                self.assertEqual(rank_of(web, numbers), number)

    def test_some_of_greater_webs(self):
        for web in GREATER:
            due = all_steps(web)
            for number in [0, 1, len(due) // 3, len(due) // 2, len(due) - 2, len(due) - 1]:
                if 0 <= number < len(due):
                    self.assertEqual(nth_steps(web, number), due[number])
                    self.assertEqual(rank_of(web, due[number]), number)

    def test_numbers_that_there_are_not(self):
        for web in [LONE, EDGE, BARE, ring_web(5), row_web(5), row_web(8), star_web(8), (2, ())]:
            count = len(all_steps(web)) if web[0] < 40 else 0
            for thing in [count, count + 1, -1, -count - 1, 10 ** 99, -(10 ** 99)] + unnumbered_things():
                self.refuse(nth_steps, web, thing)
        self.refuse(nth_steps, BARE, 0)
        self.refuse(nth_steps, ring_web(5), 0)

    def test_what_is_no_numbering(self):
        for web, numbers in ((LONE, (0,)), (EDGE, (0, 1)), (row_web(5), zigzag(5)), (row_web(8), zigzag(8))):
            for thing in spoilt_numberings(web, numbers):
                self.refuse(rank_of, web, thing)
                self.refuse(next_steps, web, thing)
        for thing in odd_things() + [(0,) * 40, tuple(range(40))]:
            self.refuse(rank_of, BARE, thing)
            self.refuse(next_steps, BARE, thing)

    def refuse(self, asked, web, thing):
        with self.assertRaises(NoNumber) as taken:
            asked(web, thing)
        self.assertIs(type(taken.exception), NoNumber)


class NextTest(unittest.TestCase):
    def test_each_of_each_web(self):
        for web in counted_webs():
            due = all_steps(web)
            if len(due) <= 200:
                self.assertEqual([next_steps(web, numbers) for numbers in due], list(due[1:]) + [None] * (due != ()))

    def test_some_of_stars(self):
        for web in (star_web(8), LATE_STAR):
            due = all_steps(web)
            for number in [0, 1, 719, 720, 5038, 5039, 5040, 10078]:
                self.assertEqual(next_steps(web, due[number]), due[number + 1])
            self.assertIsNone(next_steps(web, due[-1]))

    def test_behind_the_last(self):
        self.assertIsNone(next_steps(LONE, (0,)))
        self.assertEqual(next_steps(EDGE, (0, 1)), (1, 0))
        self.assertIsNone(next_steps(EDGE, (1, 0)))


class BeginningsTest(unittest.TestCase):
    def test_each_beginning_of_each_small_web(self):
        for web in small_ones():
            for begun in all_beginnings(web):
                due = begun_so(web, begun)
                self.assertEqual(goes_on(web, begun), len(due), (web, begun))
                told = next_numbers(web, begun)
                self.assertIsInstance(told, list)
                if len(begun) < web[0]:
                    self.assertEqual(told, sorted({numbers[len(begun)] for numbers in due}), (web, begun))
                else:
                    self.assertEqual(told, [])

    def test_some_beginnings_of_greater_webs(self):
        for web in GREATER:
            for begun in [(), (0,), (3,), (0, 2), (5, 1), (0, 6), (6, 0, 3), (1, 4, 2, 0), (2, 5, 3, 1, 0)]:
                due = begun_so(web, begun)
                self.assertEqual(goes_on(web, begun), len(due), (web, begun))
                if len(begun) < web[0]:
                    self.assertEqual(next_numbers(web, begun), sorted({numbers[len(begun)] for numbers in due}))

    def test_beginnings_of_all_places(self):
        self.assertEqual(goes_on(LONE, (0,)), 1)
        self.assertEqual(next_numbers(LONE, (0,)), [])
        self.assertEqual(goes_on(row_web(8), zigzag(8)), 1)
        self.assertEqual(next_numbers(row_web(8), zigzag(8)), [])
        self.assertEqual(goes_on(row_web(8), tuple(range(8))), 0)
        self.assertEqual(next_numbers(row_web(8), tuple(range(8))), [])

    def test_more_places_than_numbers(self):
        for begun in ((), (0,)):
            self.assertEqual(goes_on(BARE, begun), 0)
            self.assertEqual(next_numbers(BARE, begun), [])
        for begun in ((), (2,), (3, 0, 1, 2)):
            self.assertEqual(goes_on(FEW_AMONG_MANY, begun), 0)
            self.assertEqual(next_numbers(FEW_AMONG_MANY, begun), [])

    def test_what_goes_on_is_what_goes_on_with_all_next_numbers(self):
        for web in [web for web in GREATER if web not in (star_web(8), LATE_STAR)]:
            for begun in [(), (0,), (4,), (5, 0), (0, 5, 1)]:
                told = sum(goes_on(web, begun + (number,)) for number in next_numbers(web, begun))
                self.assertEqual(goes_on(web, begun), told)

    def test_what_is_no_beginning(self):
        for web in (LONE, (2, ()), EDGE, row_web(4), ring_web(5), row_web(8), FEW_AMONG_MANY):
            for thing in no_beginnings(web):
                for asked in (goes_on, next_numbers):
                    with self.assertRaises(NoNumber) as taken:
                        asked(web, thing)
                    self.assertIs(type(taken.exception), NoNumber)

    def test_as_many_numbers_as_places_at_most(self):
        self.assertEqual(goes_on(ring_web(3), (0, 1, 3)), 1)
        self.assertRaises(NoNumber, goes_on, ring_web(3), (0, 1, 3, 2))
        self.assertRaises(NoNumber, next_numbers, ring_web(3), (0, 1, 3, 2))

    def test_the_list_is_the_askers_own(self):
        told = next_numbers(row_web(4), ())
        kept = list(told)
        told.clear()
        self.assertEqual(next_numbers(row_web(4), ()), kept)


class TallyTest(unittest.TestCase):
    def test_each_place_of_each_web(self):
        for web in counted_webs():
            due = all_steps(web)
            for place in range(web[0]):
                told = tally_at(web, place)
                self.assertIsInstance(told, list)
                had = [numbers[place] for numbers in due]
                self.assertEqual(told, [had.count(number) for number in range(len(web[1]) + 1)], (web, place))
                self.assertEqual(told, told[::-1])
                self.assertEqual(sum(told), steps_count(web))

    def test_written_out(self):
        self.assertEqual(tally_at(LONE, 0), [1])
        self.assertEqual(tally_at(BARE, 39), [0])
        self.assertEqual(tally_at(EDGE, 1), [1, 1])
        self.assertEqual(tally_at(star_web(4), 0), [6, 0, 0, 6])
        self.assertEqual(tally_at(star_web(4), 3), [2, 4, 4, 2])
        self.assertEqual(tally_at(FEW_AMONG_MANY, 17), [0, 0, 0, 0])

    def test_what_is_no_place(self):
        for web in (LONE, EDGE, BARE, row_web(8), ring_web(5)):
            for thing in odd_things() + [web[0], web[0] + 1, -1, -web[0]]:
                with self.assertRaises(NoPlace) as taken:
                    tally_at(web, thing)
                self.assertIs(type(taken.exception), NoPlace)

    def test_the_list_is_the_askers_own(self):
        told = tally_at(EDGE, 0)
        told[0] = 9
        self.assertEqual(tally_at(EDGE, 0), [1, 1])


class MirrorTest(unittest.TestCase):
    def test_the_mirror_of_one_from_the_front_is_one_from_behind(self):
        for web in (row_web(5), ring_web(4), SPIDER):
            count = steps_count(web)
            for number in range(0, count, 11):
                mirror = mirrored_steps(web, nth_steps(web, number))
                self.assertEqual(rank_of(web, mirror), count - 1 - number)


if __name__ == "__main__":
    unittest.main()
