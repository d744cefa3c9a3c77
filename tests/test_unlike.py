"""Promises 8.1 to 8.6: sums unlike at places, by a hub, for whole kinds, counted, and what bars them."""

import itertools
import random
import unittest

from tests.test_evens import orders, own_sums
from tests.things import (
    NO_KINDS, all_rings, all_sides, changed, fans_and_wheels, full_kinds, greatest_web, many_spines, odd_bars,
    odd_things, own_degrees, pieced, ring_web, row_web, sides_web, small_webs, star_web, unlike_webs, webs_of,
)
from tienumbers.errors import NoKind, NoNumber, TooGreat
from tienumbers.kinds import web_for
from tienumbers.unlike import (
    unlike_bar, unlike_bar_holds, unlike_by, unlike_count, unlike_first, unlike_for, unlike_good,
)
from tienumbers.webs import is_web

LONE = (1, ())
PAIR = row_web(2)
ROW = row_web(4)
GREAT = 10 ** 100 - 1


def own_unlike(web, thing):
    if type(thing) is not tuple or any(type(number) is not int for number in thing):
        return False
    return sorted(thing) == list(range(1, len(web[1]) + 1)) and len(set(own_sums(web, thing))) == web[0]


def has_hub(web):
    return any(all((min(a, b), max(a, b)) in web[1] for b in range(web[0]) if b != a) for a in range(web[0]))


def hubbed_webs():
    """Webs with a hub and three places or more, small ones of each kind and the greatest."""
    found = [web for web in small_webs() + webs_of(5)[::3] if web[0] >= 3 and has_hub(web)]
    found += [star_web(40), star_web(39), web_for(("full", 11)), web_for(("wheel", 30)), web_for(("fan", 30))]
    middle = tuple(sorted((min(17, b), max(17, b)) for b in range(40) if b != 17))
    found.append((40, tuple(sorted(set(middle) | {(a, a + 1) for a in range(0, 16)} | {(38, 39), (20, 30), (0, 39)}))))
    last = {(a, 39) for a in range(39)} | {(a, a + 1) for a in range(21)}
    return found + [(40, tuple(sorted(last)))]


class UnlikeGoodTest(unittest.TestCase):
    def test_written_out(self):
        self.assertIs(unlike_good(ROW, (1, 3, 2)), True)
        self.assertIs(unlike_good(ROW, (1, 2, 3)), False)
        self.assertIs(unlike_good(ring_web(3), (1, 2, 3)), True)
        self.assertIs(unlike_good(PAIR, (1,)), False)
        self.assertIs(unlike_good((3, ((0, 1), (0, 2))), (1, 2)), True)
        self.assertIs(unlike_good((4, ((0, 1), (0, 2))), (1, 2)), True)
        self.assertIs(unlike_good((5, ((0, 1), (0, 2))), (1, 2)), False)

    def test_webs_without_ties(self):
        self.assertIs(unlike_good(LONE, ()), True)
        for many in (2, 3, 40):
            self.assertIs(unlike_good((many, ()), ()), False)
        for thing in odd_things():
            self.assertIs(unlike_good(LONE, thing), type(thing) is tuple and thing == ())

    def test_each_order_of_small_webs(self):
        for web in small_webs() + [web for web in webs_of(5)[::19] if len(web[1]) <= 6]:
            for numbers in orders(web):
                self.assertIs(unlike_good(web, numbers), own_unlike(web, numbers))

    def test_what_comes_near(self):
        for web, row in ((ROW, (1, 3, 2)), (ring_web(3), (1, 2, 3)), (ring_web(40), unlike_for(("ring", 40)))):
            q = len(row)
            wrong = [list(row), row + (q + 1,), row + (0,), row[:-1], (row,), {0: row}, str(row), row + (None,)]
            wrong += [tuple(2 * number for number in row), tuple(number + 1 for number in row)]
            for k, number in enumerate(row):
                for odd in (0, -1, q + 1, -number, GREAT, True, False, None, "1", str(number), (number,), [1]):
                    wrong.append(changed(row, k, odd))
                wrong += [changed(row, k, row[j]) for j in range(q) if j != k]
            for thing in wrong + odd_things():
                self.assertIs(unlike_good(web, thing), False, repr(thing))
            for k, j in itertools.combinations(range(q), 2):
                thing = changed(changed(row, k, row[j]), j, row[k])
                self.assertIs(unlike_good(web, thing), own_unlike(web, thing))


class UnlikeByTest(unittest.TestCase):
    def look(self, web, numbers):
        kept = list(numbers)
        told = unlike_by(web, numbers)
        self.assertIs(type(told), tuple)
        self.assertEqual(list(numbers), kept)
        self.assertEqual(sorted(told), sorted(numbers))
        self.assertEqual(len(set(own_sums(web, told))), web[0], (web, numbers))

    def test_many_webs_and_numbers(self):
        drawn = random.Random(82)
        for web in hubbed_webs():
            self.assertTrue(is_web(web) and has_hub(web))
            q = len(web[1])
            rows = [list(range(1, q + 1)), list(range(q, 0, -1)), [2 ** k for k in range(q)], [GREAT - k for k in range(q)]]
            rows += [drawn.sample(range(1, 2 * q + 2), q) for turn in range(4)]
            rows += [drawn.sample(range(1, 10 ** 9), q), [drawn.randrange(1, GREAT) for k in range(q)]]
            rows += [[1] + [GREAT - 2 * k for k in range(q - 1)], drawn.sample(range(1, q + 1), q)]
            for row in rows:
                self.look(web, row)
                self.look(web, tuple(row))

    def test_each_choice_of_small_numbers(self):
        for web in [web for web in small_webs() if web[0] >= 3 and has_hub(web)]:
            for numbers in itertools.combinations(range(1, 9), len(web[1])):
                self.look(web, numbers)
            for numbers in itertools.permutations(range(1, 5), len(web[1])):
                self.look(web, list(numbers))

    def test_no_hub_or_too_few_places(self):
        webs = [LONE, (2, ()), PAIR, (3, ()), (3, ((0, 1),)), ROW, ring_web(4), sides_web(2, 3), greatest_web()]
        webs += [web for web in webs_of(4) + webs_of(5)[::7] if not has_hub(web)] + [pieced([star_web(4), LONE])]
        for web in webs:
            things = [list(range(1, len(web[1]) + 1)), tuple(range(1, len(web[1]) + 1)), [1, 1], [True], None, [0]]
            for thing in things + odd_things():
                with self.assertRaises(NoKind) as taken:
                    unlike_by(web, thing)
                self.assertIs(type(taken.exception), NoKind)

    def test_what_are_no_such_numbers(self):
        for web in (row_web(3), ring_web(3), web_for(("full", 4)), star_web(40)):
            q = len(web[1])
            row = list(range(1, q + 1))
            wrong = [row[:-1], row + [q + 1], row + [0], [row], {1: row}, dict.fromkeys(row), str(row), tuple(row[:-1])]
            wrong += [[], (), dict.fromkeys(row, 1), "12", "123", "123456", q, row[:-1] + row[:1], row + row[:1], [str(n) for n in row]]
            for k in range(q):
                for odd in (0, -1, -row[k], -GREAT, True, False, None, "1", str(row[k]), (row[k],), [row[k]], {}):
                    wrong += [row[:k] + [odd] + row[k + 1:], tuple(row[:k] + [odd] + row[k + 1:])]
                wrong += [row[:k] + [row[j]] + row[k + 1:] for j in range(q) if j != k]
            for thing in wrong + odd_things():
                with self.assertRaises(NoNumber) as taken:
                    unlike_by(web, thing)
                self.assertIs(type(taken.exception), NoNumber, repr(thing))


class UnlikeForTest(unittest.TestCase):
    def test_each_kind_that_has_one(self):
        kinds = all_rings() + [("spine", (0,) * many) for many in range(3, 41)] + [("wheel", n) for n in range(3, 31)]
        kinds += [("fan", n) for n in range(2, 31)] + [("full", n) for n in range(3, 12)]
        kinds += [("spine", (leg,)) for leg in range(2, 40)] + [("spine", (leg, 0)) for leg in range(1, 39)]
        kinds += [("spine", (0, leg)) for leg in range(1, 39)] + [("spine", (0, leg, 0)) for leg in range(38)]
        kinds += [("sides", 1, n) for n in range(2, 40)] + [("sides", n, 1) for n in range(2, 40)]
        for kind in kinds:
            self.assertTrue(own_unlike(web_for(kind), unlike_for(kind)), kind)

    def test_spines_of_each_shape(self):
        for kind in many_spines():
            web = web_for(kind)
            row = not any(kind[1]) and web[0] >= 3
            if row or has_hub(web) and web[0] >= 3:
                self.assertTrue(own_unlike(web, unlike_for(kind)), kind)
            else:
                self.refuse(kind)

    def test_what_is_refused(self):
        others = [("spine", (0,)), ("spine", (0, 0)), ("spine", (1,)), ("sides", 1, 1), ("full", 1), ("full", 2)]
        others += [("fan", 1), ("spine", (1, 1)), ("spine", (1, 0, 0)), ("spine", (0, 0, 1)), ("sides", 2, 2)]
        others += [kind for kind in all_sides() if kind[1] > 1 and kind[2] > 1]
        for thing in others + NO_KINDS + odd_things():
            self.refuse(thing)

    def refuse(self, thing):
        with self.assertRaises(NoKind) as taken:
            unlike_for(thing)
        self.assertIs(type(taken.exception), NoKind, repr(thing))


def own_bars(web):
    degrees = own_degrees(web)
    found = [("lone", k) for k, (a, b) in enumerate(web[1]) if degrees[a] + degrees[b] == 2]
    bare = [place for place in range(web[0]) if degrees[place] == 0]
    return found + [("bare", a, b) for a, b in itertools.combinations(bare, 2)]


def all_tries(web):
    near = range(-2, web[0] + 2)
    found = [("lone", k) for k in range(-2, len(web[1]) + 2)]
    return found + [("bare", a, b) for a in near for b in near]


class UnlikeBarTest(unittest.TestCase):
    def look(self, web):
        due = own_bars(web)
        self.assertEqual([bar for bar in all_tries(web) if unlike_bar_holds(web, bar)], due, web)
        self.assertEqual(unlike_bar(web), due[0] if due else None)

    def test_written_out(self):
        self.assertEqual(unlike_bar(PAIR), ("lone", 0))
        self.assertEqual(unlike_bar((2, ())), ("bare", 0, 1))
        self.assertIsNone(unlike_bar(LONE))
        self.assertIsNone(unlike_bar(ROW))
        web = (8, ((1, 5), (1, 6), (2, 4)))
        self.assertEqual(unlike_bar(web), ("lone", 2))
        self.assertIs(unlike_bar_holds(web, ("bare", 0, 3)), True)
        self.assertIs(unlike_bar_holds(web, ("bare", 3, 7)), True)
        self.assertIs(unlike_bar_holds(web, ("bare", 3, 0)), False)
        self.assertIs(unlike_bar_holds(web, ("bare", 0, 1)), False)
        self.assertEqual(unlike_bar((6, ((1, 2), (2, 4)))), ("bare", 0, 3))

    def test_small_and_great_webs(self):
        webs = small_webs() + webs_of(5)[::3] + [greatest_web(), (40, ()), pieced([PAIR] * 20), row_web(40)]
        for web in webs + [pieced([ring_web(3), LONE, PAIR, LONE, row_web(3), LONE]), pieced([star_web(38), PAIR])]:
            self.look(web)

    def test_what_comes_near(self):
        for web in (PAIR, (2, ()), (5, ((0, 1),)), (40, ()), pieced([PAIR] * 5), LONE, ROW):
            wrong = [("lone",), ("lone", 0, 1), ["lone", 0], ("lone", True), ("lone", False), ("lone", None), ("lone", "0")]
            wrong += [("lone", -1), ("lone", (0,)), ("lone", 60), ("lone", GREAT), ("bare",), ("places",), ("even",)]
            wrong += [("bare", False, 1), ("bare", 2, True), ("bare", 2, 3, 4), ("bare", 1, 0), ("bare", 3, 2)]
            for thing in wrong + odd_bars():
                self.assertIs(unlike_bar_holds(web, thing), False, (web, thing))


class CountTest(unittest.TestCase):
    def look(self, web):
        found = [numbers for numbers in orders(web) if own_unlike(web, numbers)]
        self.assertEqual(unlike_count(web), len(found), web)
        self.assertEqual(unlike_first(web), min(found) if found else None, web)

    def test_small_webs(self):
        for web in small_webs() + [web for web in unlike_webs(5) + webs_of(5)[::17] if len(web[1]) <= 6]:
            self.look(web)

    def test_webs_of_six_ties(self):
        for web in (row_web(7), ring_web(6), star_web(7), sides_web(2, 3), web_for(("full", 4)), pieced([PAIR] * 6)):
            self.look(web)
        self.look(pieced([star_web(7), LONE]))
        self.look((40, tuple((0, k) for k in range(34, 40))))

    def test_webs_without_ties(self):
        self.assertEqual((unlike_count(LONE), unlike_first(LONE)), (1, ()))
        for many in (2, 40):
            self.assertEqual((unlike_count((many, ())), unlike_first((many, ()))), (0, None))

    def test_more_than_six_ties(self):
        for web in (row_web(8), ring_web(7), star_web(8), greatest_web(), web_for(("full", 5)), pieced([PAIR] * 7)):
            for asked in (unlike_count, unlike_first):
                with self.assertRaises(TooGreat) as taken:
                    asked(web)
                self.assertIs(type(taken.exception), TooGreat)
                self.assertEqual((taken.exception.many, taken.exception.most), (len(web[1]), 6))


class WholeStageTest(unittest.TestCase):
    def test_no_web_has_both_a_bar_and_a_numbering(self):
        barred = 0
        for web in small_webs() + [web for web in unlike_webs(5) if len(web[1]) <= 6]:
            if unlike_bar(web) is not None:
                self.assertEqual((unlike_count(web), unlike_first(web)), (0, None))
                barred += 1
        self.assertGreater(barred, 20)

    def test_opposite_numbers_where_all_places_have_as_many_ties(self):
        webs = [web for web in small_webs() + webs_of(5) if len(set(own_degrees(web))) == 1 and len(web[1]) <= 6]
        self.assertGreater(len(webs), 15)
        for web in webs + [sides_web(2, 2), ring_web(6)]:
            q = len(web[1])
            good = [numbers for numbers in orders(web) if unlike_good(web, numbers)]
            for numbers in good:
                self.assertIs(unlike_good(web, tuple(q + 1 - number for number in numbers)), True)
        for n in range(3, 41):
            told = unlike_for(("ring", n))
            self.assertIs(unlike_good(ring_web(n), tuple(n + 1 - number for number in told)), True)


if __name__ == "__main__":
    unittest.main()
