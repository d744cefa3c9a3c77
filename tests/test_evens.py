"""Promises 7.1 and 7.4 to 7.7: sums at places, even numberings, what bars them, and those of whole kinds."""

import itertools
import unittest

from tests.test_squares import SIZES, own_square, some_squares
from tests.things import (
    NO_KINDS, all_rings, all_sides, changed, fans_and_wheels, full_kinds, greatest_web, many_spines, odd_bars,
    odd_things, own_degrees, pieced, ring_web, row_web, sides_web, small_webs, star_web, unlike_webs, webs_of,
)
from tienumbers.errors import NoKind
from tienumbers.evens import (
    even_bar, even_bar_holds, even_for, even_good, numbering_of, place_sums, square_of,
)
from tienumbers.kinds import web_for
from tienumbers.squares import square_for

LONE = (1, ())
PAIR = row_web(2)
THREES = sides_web(3, 3)
NUMBERS = (2, 7, 6, 9, 5, 1, 4, 3, 8)
GREAT = 10 ** 100 - 1


def own_sums(web, numbers):
    return [sum(number for number, tie in zip(numbers, web[1]) if place in tie) for place in range(web[0])]


def own_even(web, thing):
    q = len(web[1])
    if type(thing) is not tuple or any(type(number) is not int for number in thing):
        return False
    return sorted(thing) == list(range(1, q + 1)) and len(set(own_sums(web, thing))) == 1


def orders(web):
    return itertools.permutations(range(1, len(web[1]) + 1))


def own_pieces(web):
    """Each piece as a set, by putting together what ties hold together."""
    found = [{place} for place in range(web[0])]
    for a, b in web[1]:
        one = next(piece for piece in found if a in piece)
        other = next(piece for piece in found if b in piece)
        if one is not other:
            one |= other
            found.remove(other)
    return found


def own_uneven(web, piece):
    """Whether a piece has two sides, with more places on the one, by going through all ways for small ones."""
    ties = [tie for tie in web[1] if tie[0] in piece]
    sides = {min(piece): 0}
    while len(sides) < len(piece):
        for a, b in ties:
            if a in sides or b in sides:
                sides.setdefault(a, 1 - sides.get(b, 0))
                sides.setdefault(b, 1 - sides[a])
    return all(sides[a] != sides[b] for a, b in ties) and sum(sides.values()) * 2 != len(piece)


def own_bars(web):
    p, q, degrees = web[0], len(web[1]), own_degrees(web)
    if q == 0:
        return []
    whole = q * (q + 1)
    found = [("lone",)] if min(degrees) == 0 else []
    found += [("count",)] if whole % p else []
    for a in range(p):
        others = [b if a == c else c for b, c in web[1] if a in (b, c)]
        if len(others) == 1 and degrees[others[0]] > 1:
            found.append(("end", a))
    found += [("pair", a, b) for a, b in itertools.combinations(range(p), 2)
              if (a, b) in web[1] and degrees[a] == degrees[b] == 2]
    found += sorted(("sides", min(piece)) for piece in own_pieces(web) if own_uneven(web, piece))
    found += [("poor", a) for a in range(p) if p * sum(sorted(range(1, q + 1))[q - degrees[a]:]) < whole]
    found += [("rich", a) for a in range(p) if p * sum(list(range(1, q + 1))[:degrees[a]]) > whole]
    return found


def all_tries(web):
    """Each tuple that has a bar's form, with places of the web and somewhat beyond."""
    places = range(-2, web[0] + 2)
    found = [("lone",), ("count",)]
    found += [(word, a) for word in ("end", "sides", "poor", "rich") for a in places]
    return found + [("pair", a, b) for a in places for b in places]


class PlaceSumsTest(unittest.TestCase):
    def test_written_out(self):
        self.assertEqual(place_sums(row_web(4), (1, 3, 2)), [1, 4, 5, 2])
        self.assertEqual(place_sums((4, ((0, 3),)), (7,)), [7, 0, 0, 7])
        self.assertEqual(place_sums(LONE, ()), [0])
        self.assertEqual(place_sums((3, ()), ()), [0, 0, 0])
        self.assertEqual(place_sums(ring_web(3), (GREAT, -1, -GREAT)), [GREAT - 1, 0, -1 - GREAT])
        self.assertEqual(place_sums(THREES, NUMBERS), [15] * 6)

    def test_many_webs(self):
        for web in small_webs() + webs_of(5)[::31] + [greatest_web(), pieced([ring_web(3), LONE, row_web(3)])]:
            for numbers in (tuple(range(len(web[1]))), tuple(7 - k ** 30 for k in range(len(web[1])))):
                told = place_sums(web, numbers)
                self.assertIs(type(told), list)
                self.assertEqual(told, own_sums(web, numbers))
                self.assertEqual(sum(told), 2 * sum(numbers))


class EvenGoodTest(unittest.TestCase):
    def test_written_out(self):
        self.assertIs(even_good(PAIR, (1,)), True)
        self.assertIs(even_good(PAIR, (2,)), False)
        self.assertIs(even_good(THREES, NUMBERS), True)
        self.assertIs(even_good(LONE, ()), True)
        self.assertIs(even_good((2, ()), ()), True)
        self.assertIs(even_good((3, ((0, 1),)), (1,)), False)

    def test_each_order_of_small_webs(self):
        for web in small_webs() + [web for web in webs_of(5)[::19] if len(web[1]) <= 6]:
            for numbers in orders(web):
                self.assertIs(even_good(web, numbers), own_even(web, numbers))

    def test_alike_sums_of_other_numbers(self):
        self.assertIs(even_good(ring_web(3), (1, 1, 1)), False)
        self.assertIs(even_good(ring_web(4), (1, 2, 2, 1)), False)
        self.assertIs(even_good(THREES, tuple(number + 1 for number in NUMBERS)), False)
        self.assertIs(even_good(THREES, tuple(number - 1 for number in NUMBERS)), False)

    def test_what_comes_near(self):
        for web, row in ((THREES, NUMBERS), (PAIR, (1,)), (sides_web(7, 7), numbering_of(square_for(7)))):
            q = len(row)
            wrong = [list(row), row + (q + 1,), row + (0,), row[:-1], (row,), {0: row}, str(row), row + (None,)]
            for k, number in enumerate(row):
                for odd in (0, -1, q + 1, -number, GREAT, True, False, None, "1", str(number), (number,), [1]):
                    wrong.append(changed(row, k, odd))
                wrong += [changed(row, k, row[j]) for j in range(q) if j != k]
                wrong += [changed(changed(row, k, row[j]), j, number) for j in range(k)]
            for thing in wrong + [thing for thing in odd_things() if thing != (1,)]:
                self.assertIs(even_good(web, thing), False, repr(thing))
        for thing in odd_things():
            self.assertIs(even_good(LONE, thing), thing == () and type(thing) is tuple)


class SquareOfTest(unittest.TestCase):
    def test_written_out(self):
        self.assertEqual(square_of(NUMBERS), ((2, 7, 6), (9, 5, 1), (4, 3, 8)))
        self.assertEqual(numbering_of(((2, 7, 6), (9, 5, 1), (4, 3, 8))), NUMBERS)
        self.assertEqual(square_of((1,)), ((1,),))
        self.assertEqual(numbering_of(((1,),)), (1,))

    def test_each_size_each_way_about(self):
        self.assertEqual(sorted({len(square) for square in some_squares()}), list(SIZES))
        for square in some_squares():
            n = len(square)
            web = web_for(("sides", n, n))
            told = numbering_of(square)
            self.assertIs(type(told), tuple)
            for number, (a, b) in zip(told, web[1]):
                self.assertEqual(number, square[a][b - n])
            self.assertTrue(own_even(web, told))
            self.assertEqual(square_of(told), square)
            self.assertTrue(own_square(square_of(told)))


class EvenBarTest(unittest.TestCase):
    def look(self, web):
        due = own_bars(web)
        self.assertEqual(sorted(bar for bar in all_tries(web) if even_bar_holds(web, bar)), sorted(due), web)
        self.assertEqual(even_bar(web), due[0] if due else None, web)

    def test_written_out(self):
        self.assertEqual(even_bar((3, ((0, 1),))), ("lone",))
        self.assertEqual(even_bar(row_web(4)), ("end", 0))
        self.assertEqual(even_bar(star_web(4)), ("end", 1))
        self.assertEqual(even_bar(ring_web(4)), ("pair", 0, 1))
        self.assertEqual(even_bar(sides_web(2, 2)), ("pair", 0, 2))
        self.assertEqual(even_bar(web_for(("full", 4))), ("count",))
        self.assertEqual(even_bar(sides_web(2, 3)), ("count",))
        self.assertEqual(even_bar(sides_web(3, 5)), ("sides", 0))
        self.assertIsNone(even_bar(PAIR))
        self.assertIsNone(even_bar(THREES))
        self.assertIsNone(even_bar(web_for(("full", 5))))

    def test_pieces(self):
        # A place by itself is a piece with two sides, of which one has no place.
        self.assertIs(even_bar_holds((3, ((0, 2),)), ("sides", 1)), True)
        self.assertIs(even_bar_holds((3, ((0, 2),)), ("sides", 0)), False)
        both = pieced([ring_web(3), row_web(3), row_web(2)])
        self.assertIs(even_bar_holds(both, ("sides", 0)), False)
        self.assertIs(even_bar_holds(both, ("sides", 3)), True)
        self.assertIs(even_bar_holds(both, ("sides", 4)), False)
        self.assertIs(even_bar_holds(both, ("sides", 6)), False)
        for web in (both, pieced([row_web(3), ring_web(5), LONE, star_web(5)]), pieced([PAIR] * 5)):
            self.look(web)

    def test_poor_and_rich_at_their_edges(self):
        seen = {}
        for web in [web for many in range(2, 6) for web in webs_of(many) if web[1]]:
            p, q, degrees = web[0], len(web[1]), own_degrees(web)
            for a, degree in enumerate(degrees):
                poor = p * sum(range(q - degree + 1, q + 1)) - q * (q + 1)
                rich = p * sum(range(1, degree + 1)) - q * (q + 1)
                self.assertIs(even_bar_holds(web, ("poor", a)), poor < 0)
                self.assertIs(even_bar_holds(web, ("rich", a)), rich > 0)
                seen[("poor", (poor > 0) - (poor < 0))] = True
                seen[("rich", (rich > 0) - (rich < 0))] = True
        self.assertEqual(len(seen), 6)

    def test_the_last_words_alone(self):
        # Places of three ties or more, in one piece that has no two sides, and a number of ties that p divides.
        full = list(itertools.combinations(range(8), 2))
        firsts = []
        for left in itertools.combinations(range(3, len(full)), 2):
            web = (8, tuple(tie for k, tie in enumerate(full) if k not in left and (k < 20 or k % 3)))
            self.look(web)
            firsts.append(even_bar(web))
        self.assertEqual(set(firsts), {None, ("poor", 7), ("count",)})
        ties = [(0, b) for b in range(1, 9)] + [(a, a + 1) for a in range(1, 8)] + [(1, 8), (1, 5)]
        hubbed = (9, tuple(sorted(ties)))
        self.look(hubbed)
        self.assertEqual(even_bar(hubbed), ("rich", 0))

    def test_small_and_great_webs(self):
        for web in small_webs() + webs_of(5)[::3] + [greatest_web()]:
            self.look(web)
        for kind in all_rings()[::5] + all_sides()[::5] + full_kinds() + fans_and_wheels()[::5] + many_spines()[::29]:
            self.look(web_for(kind))

    def test_webs_without_ties_have_none(self):
        for many in (1, 2, 5):
            self.assertIsNone(even_bar((many, ())))
            for bar in all_tries((many, ())) + odd_bars():
                self.assertIs(even_bar_holds((many, ()), bar), False)

    def test_what_comes_near(self):
        for web in (row_web(4), ring_web(4), (3, ((0, 1),)), sides_web(2, 3), star_web(5), greatest_web()):
            for thing in odd_bars() + [("lone", 0), ("lone", 2), ("count", 4), ("pair", 1, 0), ("all",), ("places",)]:
                self.assertIs(even_bar_holds(web, thing), False, (web, thing))


class EvenForTest(unittest.TestCase):
    def test_where_there_is_a_numbering(self):
        for kind in [("spine", (0, 0)), ("spine", (1,)), ("sides", 1, 1)] + [("sides", n, n) for n in range(3, 8)]:
            told = even_for(kind)
            self.assertEqual((type(told), len(told), told[0]), (tuple, 2, "numbering"))
            self.assertTrue(own_even(web_for(kind), told[1]), kind)

    def test_where_there_is_a_bar(self):
        sides = [kind for kind in all_sides() if kind[1] != kind[2]] + [("sides", 2, 2)]
        for kind in sides + all_rings() + [kind for kind in many_spines() if kind[1] not in ((0, 0), (1,))]:
            told = even_for(kind)
            self.assertEqual((type(told), len(told), told[0]), (tuple, 2, "bar"))
            self.assertIn(told[1], own_bars(web_for(kind)), kind)

    def test_what_is_refused(self):
        for thing in full_kinds() + fans_and_wheels() + [("spine", (0,))] + NO_KINDS + odd_things():
            with self.assertRaises(NoKind) as taken:
                even_for(thing)
            self.assertIs(type(taken.exception), NoKind, repr(thing))


class WholeStageTest(unittest.TestCase):
    def test_no_web_has_both_a_bar_and_a_numbering(self):
        webs = [web for many in (1, 2, 3, 4, 5) for web in unlike_webs(many) if len(web[1]) <= 7]
        barred = found = 0
        for web in webs:
            good = [numbers for numbers in orders(web) if even_good(web, numbers)]
            if even_bar(web) is not None:
                self.assertEqual(good, [])
                barred += 1
            found += len(good) > 0
            for numbers in good[:5]:
                self.assertEqual(sum(place_sums(web, numbers)), len(web[1]) * (len(web[1]) + 1))
        self.assertTrue(barred and found)


if __name__ == "__main__":
    unittest.main()
