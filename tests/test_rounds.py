"""Promises 5.1 to 5.6: round sums and round numberings, what bars them, and those of whole kinds."""

import itertools
import math
import unittest

from tests.things import (
    NO_KINDS, all_rings, all_sides, all_steps, changed, fans_and_wheels, full_kinds, greatest_web, many_spines,
    odd_bars, odd_things, own_degrees, own_good, own_parting, pieced, ring_web, row_web, sides_web, small_webs,
    star_web, webs_of, zigzag,
)
from tienumbers.errors import NoKind, NoPlace, NoShare
from tienumbers.kinds import web_for
from tienumbers.rounds import (
    round_bar, round_bar_holds, round_for, round_from, round_good, round_sums, times_round, turned_round,
)

LONE = (1, ())
BARE = (3, ())
ROW = row_web(4)
TRIANGLE = ring_web(3)
GREAT = 10 ** 100 - 1
# Rings of three with two further places; a ring of three, a pair and a place that hangs on nothing.
TAILED = (5, ((0, 1), (0, 2), (1, 2), (2, 3), (3, 4)))
FORKED = (5, ((0, 1), (0, 2), (1, 2), (2, 3), (2, 4)))
PIECES = pieced([TRIANGLE, row_web(2), LONE])


def own_tree(web):
    """Whether all places can be reached from place 0, by one tie fewer than places."""
    reached = {0}
    for turn in range(web[0]):
        reached |= {end for tie in web[1] for end in tie if set(tie) & reached}
    return len(web[1]) == web[0] - 1 and len(reached) == web[0]


def own_round(web, thing):
    q = len(web[1])
    if type(thing) is not tuple or len(thing) != web[0] or any(type(number) is not int for number in thing):
        return False
    if q == 0 or any(number not in range(q) for number in thing):
        return False
    twice = sorted(thing.count(number) for number in range(q))
    if own_tree(web):
        if twice != [1] * (q - 1) + [2]:
            return False
    elif max(twice) > 1:
        return False
    return sorted((thing[a] + thing[b]) % q for a, b in web[1]) == list(range(q))


def all_rounds(web):
    return [row for row in itertools.product(range(len(web[1])), repeat=web[0]) if own_round(web, row)]


def some_webs():
    """Small webs with a tie, and some of five places."""
    return [web for web in small_webs() if web[1]] + [web for web in webs_of(5)[1::37] if 1 <= len(web[1]) <= 6]


def own_bars(web):
    q, degrees = len(web[1]), own_degrees(web)
    if q == 0:
        return []
    found = [("places",)] if web[0] > q and not own_tree(web) else []
    for g in range(2, 70):
        divides = q % g == 0 and all(degree % g == 0 for degree in degrees)
        if q % 2 == 0 and divides and (q // 2) % g:
            found.append(("share", g))
    if web[0] == q and q % 2 == 0 and set(degrees) == {2}:
        found.append(("all",))
    return found


class RoundSumsTest(unittest.TestCase):
    def test_written_out(self):
        self.assertEqual(round_sums(ROW, (0, 2, 1, 0)), [2, 0, 1])
        self.assertEqual(round_sums(ROW, (5, 5, 5, 5)), [1, 1, 1])
        self.assertEqual(round_sums(ROW, (-1, 0, -7, 3)), [2, 2, 2])
        self.assertEqual(round_sums(row_web(2), (17, -40)), [0])
        self.assertEqual(round_sums(ROW, (GREAT, 0, 1 - GREAT, -GREAT)), [0, 1, 1])

    def test_in_the_order_of_the_ties(self):
        web = (5, ((0, 4), (1, 2), (1, 4), (3, 4)))
        self.assertEqual(round_sums(web, (100, 20, 3, 7, 1)), [1, 3, 1, 0])
        for web in some_webs() + [greatest_web(), PIECES]:
            for numbers in (tuple(range(web[0])), tuple(7 - place ** 30 for place in range(web[0]))):
                told = round_sums(web, numbers)
                self.assertIsInstance(told, list)
                self.assertEqual(told, [divmod(numbers[a] + numbers[b], len(web[1]))[1] for a, b in web[1]])

    def test_webs_without_ties_are_refused(self):
        for many in (1, 2, 3, 40):
            with self.assertRaises(NoPlace) as taken:
                round_sums((many, ()), (0,) * many)
            self.assertIs(type(taken.exception), NoPlace)


class RoundGoodTest(unittest.TestCase):
    def test_trees(self):
        self.assertIs(round_good(row_web(2), (0, 0)), True)
        self.assertIs(round_good(row_web(2), (0, 1)), False)
        self.assertIs(round_good(ROW, (0, 2, 1, 0)), True)
        self.assertIs(round_good(ROW, (0, 0, 0, 0)), False)
        self.assertIs(round_good(ROW, (0, 0, 1, 0)), False)
        self.assertIs(round_good(ROW, (0, 1, 0, 1)), False)
        self.assertIs(round_good(star_web(5), (0, 0, 1, 2, 3)), True)
        self.assertIs(round_good(star_web(5), (0, 1, 1, 2, 3)), False)
        self.assertIs(round_good(star_web(5), (2, 0, 1, 3, 2)), True)

    def test_other_webs(self):
        self.assertIs(round_good(TRIANGLE, (0, 1, 2)), True)
        self.assertIs(round_good(TRIANGLE, (0, 1, 1)), False)
        self.assertIs(round_good(TRIANGLE, (0, 1, 3)), False)
        self.assertIs(round_good(TRIANGLE, (0, 1, -1)), False)
        self.assertIs(round_good(ring_web(5), (0, 1, 2, 3, 4)), True)
        self.assertIs(round_good(ring_web(5), (0, 1, 2, 4, 3)), False)
        self.assertIs(round_good((3, ((0, 1),)), (0, 0, 0)), False)

    def test_webs_without_ties_have_none(self):
        for many in (1, 2, 3):
            for thing in [(), (0,) * many, tuple(range(many)), (1,) * many] + odd_things():
                self.assertIs(round_good((many, ()), thing), False)

    def test_pieces_with_one_place_more_than_ties_are_no_tree(self):
        web = pieced([TRIANGLE, LONE])
        self.assertIs(round_good(web, (0, 1, 2, 0)), False)
        web = pieced([ring_web(3), row_web(2)])
        for row in itertools.product(range(4), repeat=5):
            self.assertIs(round_good(web, row), False)

    def test_one_tie_more_than_a_tree(self):
        square = (4, ((0, 1), (0, 3), (1, 2), (1, 3), (2, 3)))
        pairs = pieced([(4, ((0, 1), (0, 2), (0, 3), (1, 2), (1, 3), (2, 3))), row_web(2)])
        for web, many in ((ring_web(5), 20), (FORKED, 40), ((4, TRIANGLE[1] + ((2, 3),)), 8), (TAILED, 0),
                          (pieced([square, LONE]), 40), (pieced([TRIANGLE, TRIANGLE]), 0), (pairs, 0)):
            found = 0
            for row in itertools.product(range(len(web[1])), repeat=web[0]) if web[0] < 6 else []:
                self.assertIs(round_good(web, row), own_round(web, row))
            for row in itertools.permutations(range(-1, len(web[1]) + 1), web[0]):
                self.assertIs(round_good(web, row), own_round(web, row))
                found += own_round(web, row)
            self.assertEqual(found, many, web)

    def test_each_row_of_small_webs(self):
        for web in small_webs():
            for row in itertools.product(range(-1, min(len(web[1]), 5) + 1), repeat=web[0]):
                self.assertIs(round_good(web, row), own_round(web, row), (web, row))

    def test_what_comes_near(self):
        for web, row in ((ROW, (0, 2, 1, 0)), (ring_web(5), (0, 1, 2, 3, 4)), (row_web(2), (0, 0))):
            q = len(web[1])
            wrong = [list(row), row + (0,), row[:-1], (row,), dict(enumerate(row)), str(row), row + (None,)]
            for place, number in enumerate(row):
                for odd in (q, q + number, -1, number - q, GREAT, True, False, None, "0", str(number), (number,), [0]):
                    wrong.append(changed(row, place, odd))
            for thing in wrong + odd_things():
                self.assertIs(round_good(web, thing), False, repr(thing))


class TurnedTest(unittest.TestCase):
    def test_written_out(self):
        self.assertEqual(turned_round(ROW, (0, 2, 1, 0), 1), (1, 0, 2, 1))
        self.assertEqual(turned_round(ROW, (0, 2, 1, 0), -1), (2, 1, 0, 2))
        self.assertEqual(turned_round(ROW, (0, 2, 1, 0), 3 * GREAT), (0, 2, 1, 0))
        self.assertEqual(turned_round(row_web(2), (0, 0), 12), (0, 0))
        self.assertEqual(times_round(ROW, (0, 2, 1, 0), 2), (0, 1, 2, 0))
        self.assertEqual(times_round(ROW, (0, 2, 1, 0), -1), (0, 1, 2, 0))
        self.assertEqual(times_round(ROW, (0, 2, 1, 0), 10 ** 99), (0, 2, 1, 0))

    def test_all_of_small_webs_and_back(self):
        for web in some_webs():
            for row in all_rounds(web)[:40]:
                for more in (0, 1, -1, 2, 5, -13, GREAT, -GREAT, 10 ** 50 + 3):
                    told = turned_round(web, row, more)
                    self.assertEqual(told, tuple((number + more) % len(web[1]) for number in row))
                    self.assertTrue(own_round(web, told))
                    self.assertEqual(turned_round(web, told, -more), row)

    def test_so_many_times(self):
        for web in some_webs():
            q = len(web[1])
            for row in all_rounds(web)[:40]:
                for often in list(range(-13, 14)) + [GREAT, -GREAT, 10 ** 99, 10 ** 60 + 1, -(10 ** 99)]:
                    if math.gcd(q, often) > 1:
                        self.refuse(web, row, often)
                    else:
                        told = times_round(web, row, often)
                        self.assertEqual(told, tuple(number * often % q for number in row))
                        self.assertTrue(own_round(web, told))
                        if q > 1:
                            self.assertEqual(times_round(web, told, pow(often, -1, q)), row)

    def refuse(self, web, row, often):
        with self.assertRaises(NoShare) as taken:
            times_round(web, row, often)
        self.assertIs(type(taken.exception), NoShare)
        self.assertEqual(taken.exception.number, math.gcd(len(web[1]), often))

    def test_the_greatest_that_divides_both(self):
        row = tuple(round_for(("spine", (23, 0)))[1])
        for often, due in ((0, 24), (24, 24), (-24, 24), (36, 12), (-16, 8), (9, 3), (-10, 2), (24 * 10 ** 97, 24)):
            with self.assertRaises(NoShare) as taken:
                times_round(star_web(25), row, often)
            self.assertEqual(taken.exception.number, due)

    def test_one_tie_is_never_refused(self):
        for often in (0, 1, -1, 2, 60, GREAT, -GREAT):
            self.assertEqual(times_round(row_web(2), (0, 0), often), (0, 0))

    def test_great_webs(self):
        for kind in (("ring", 39), ("spine", (0,) * 40), ("spine", (19, 19))):
            web, row = web_for(kind), round_for(kind)[1]
            for often in (2, -2, 5, 10 ** 99, 7):
                if math.gcd(often, len(web[1])) == 1:
                    self.assertTrue(own_round(web, times_round(web, row, often)))
                self.assertTrue(own_round(web, turned_round(web, row, often)))


class RoundBarTest(unittest.TestCase):
    def look(self, web):
        due = own_bars(web)
        tried = [("places",), ("all",)] + [("share", g) for g in range(-2, 66)]
        self.assertEqual([bar for bar in tried if round_bar_holds(web, bar)], [bar for bar in tried if bar in due])
        self.assertEqual(round_bar(web), due[0] if due else None)

    def test_written_out(self):
        self.assertEqual(round_bar(PIECES), ("places",))
        self.assertEqual(round_bar((3, ((0, 1),))), ("places",))
        self.assertEqual(round_bar(ring_web(4)), ("all",))
        self.assertEqual(round_bar(ring_web(6)), ("share", 2))
        self.assertIs(round_bar_holds(ring_web(6), ("all",)), True)
        self.assertIsNone(round_bar(ring_web(5)))
        self.assertIsNone(round_bar(ROW))
        self.assertIs(round_bar_holds(ROW, ("places",)), False)
        self.assertIs(round_bar_holds(ring_web(4), ("share", 2)), False)

    def test_places_of_pieces_with_one_place_more_than_ties(self):
        self.assertEqual(round_bar(pieced([TRIANGLE, LONE])), ("places",))
        self.assertEqual(round_bar(pieced([ring_web(4), row_web(2)])), ("places",))
        self.assertIsNone(round_bar(row_web(2)))

    def test_shares_greater_than_two(self):
        self.look(sides_web(4, 4))
        four = web_for(("full", 5))
        self.assertEqual((len(four[1]), round_bar(four)), (10, ("share", 2)))
        # 12 ties, four at each of six places: 2 divides the half of 12, 4 doesn't.
        third = (6, tuple((a, b) for a in range(6) for b in range(a + 1, 6) if b - a != 3))
        self.assertEqual(round_bar(third), ("share", 4))
        self.assertIs(round_bar_holds(third, ("share", 2)), False)
        # 18 ties, six at each of six places: 2 and 6 both hold.
        sixes = sides_web(3, 6)
        self.look(sixes)
        seven = (7, tuple(itertools.combinations(range(7), 2)))
        self.look(seven)
        nine = (9, tuple((a, b) for a, b in itertools.combinations(range(9), 2) if (b - a) % 9 in (1, 2, 3, 6, 7, 8)))
        self.assertEqual([len(nine[1]), set(own_degrees(nine))], [27, {6}])
        self.look(nine)
        ten = (10, tuple(tie for tie in itertools.combinations(range(10), 2) if (tie[1] - tie[0]) % 10 not in (1, 9, 5)))
        self.assertEqual([len(ten[1]), set(own_degrees(ten))], [30, {6}])
        self.look(ten)
        self.assertEqual([bar for bar in own_bars(ten)], [("share", 2), ("share", 6)])

    def test_small_and_great_webs(self):
        for web in small_webs() + webs_of(5)[::5] + [greatest_web(), PIECES, TAILED, pieced([ring_web(4)] * 10)]:
            self.look(web)
        for kind in all_rings() + all_sides() + full_kinds() + fans_and_wheels() + many_spines()[::7]:
            self.look(web_for(kind))

    def test_each_place_of_all_has_two_ties(self):
        self.look(pieced([ring_web(3), ring_web(5)]))
        self.assertIs(round_bar_holds(pieced([ring_web(3), ring_web(5)]), ("all",)), True)
        self.look((4, ((0, 1), (0, 2), (1, 2), (2, 3))))
        self.look(pieced([ring_web(3), ring_web(4)]))

    def test_webs_without_ties_have_none(self):
        for many in (1, 2, 40):
            self.assertIsNone(round_bar((many, ())))
            for bar in [("places",), ("all",), ("share", 2)] + odd_bars():
                self.assertIs(round_bar_holds((many, ()), bar), False)

    def test_what_comes_near(self):
        for web in (ring_web(6), ring_web(4), PIECES, ROW, sides_web(2, 5), TRIANGLE):
            for thing in odd_bars():
                self.assertIs(round_bar_holds(web, thing), False, repr(thing))


class RoundForTest(unittest.TestCase):
    def test_each_spine(self):
        for kind in many_spines():
            told = round_for(kind)
            self.assertEqual((type(told), len(told), told[0]), (tuple, 2, "numbering"))
            self.assertTrue(own_round(web_for(kind), told[1]), kind)

    def test_each_ring(self):
        for n in range(3, 41):
            told = round_for(("ring", n))
            self.assertEqual((type(told), len(told)), (tuple, 2))
            if n % 2:
                self.assertEqual(told[0], "numbering")
                self.assertTrue(own_round(ring_web(n), told[1]))
            else:
                self.assertEqual(told[0], "bar")
                self.assertIn(told[1], own_bars(ring_web(n)))

    def test_what_is_refused(self):
        others = all_sides() + full_kinds() + fans_and_wheels() + [("spine", (0,))]
        for thing in others + NO_KINDS + odd_things():
            with self.assertRaises(NoKind) as taken:
                round_for(thing)
            self.assertIs(type(taken.exception), NoKind, repr(thing))


class RoundFromTest(unittest.TestCase):
    def look(self, web, numbers):
        q, (t,) = len(web[1]), own_parting(web, numbers)
        told = round_from(web, numbers)
        self.assertEqual(told, tuple(n if n <= t else (t + 1 + q - n) % q for n in numbers))
        self.assertTrue(own_round(web, told), (web, numbers))

    def test_written_out(self):
        self.assertEqual(round_from(ROW, (0, 3, 1, 2)), (0, 2, 1, 0))
        self.assertEqual(round_from(row_web(2), (0, 1)), (0, 0))
        self.assertEqual(round_from(row_web(2), (1, 0)), (0, 0))
        self.assertEqual(round_from(star_web(4), (3, 2, 1, 0)), (0, 2, 1, 0))

    def test_small_trees_and_their_mirrors(self):
        trees = [web for many in (2, 3, 4, 5) for web in webs_of(many) if own_tree(web)]
        found = 0
        for web in trees:
            for numbers in all_steps(web):
                if own_parting(web, numbers):
                    self.look(web, numbers)
                    self.look(web, tuple(len(web[1]) - number for number in numbers))
                    found += 1
        self.assertGreater(found, 100)

    def test_great_trees_and_their_mirrors(self):
        for many in (10, 39, 40):
            self.look(row_web(many), zigzag(many))
            self.look(row_web(many), tuple(many - 1 - number for number in zigzag(many)))
            self.look(star_web(many), tuple(range(many)))
            self.look(star_web(many), tuple(reversed(range(many))))
            self.assertTrue(own_good(row_web(many), zigzag(many)))


class WholeStageTest(unittest.TestCase):
    def test_no_web_has_both_a_bar_and_a_numbering(self):
        barred = 0
        for web in some_webs():
            found = [row for row in itertools.product(range(len(web[1])), repeat=web[0]) if round_good(web, row)]
            if round_bar(web) is not None:
                self.assertEqual(found, [])
                barred += 1
            for row in found[:60]:
                self.assertEqual(sorted(round_sums(web, row)), list(range(len(web[1]))))
        self.assertGreater(barred, 10)


if __name__ == "__main__":
    unittest.main()
