"""Promises 6.1 to 6.6: total numberings, their span, what bars them, and those of whole kinds."""

import functools
import itertools
import unittest

from tests.things import (
    NO_KINDS, all_rings, all_sides, changed, fans_and_wheels, full_kinds, greatest_web, many_spines, odd_bars,
    odd_things, own_degrees, pieced, ring_web, row_web, sides_web, small_webs, star_web, unlike_webs, webs_of,
)
from tienumbers.errors import NoKind, NoNumber
from tienumbers.kinds import web_for
from tienumbers.totals import (
    low_by, low_good, low_opposite, opposite_total, total_bar_holds, total_bars, total_for, total_good, total_of,
    total_span,
)

PAIR = row_web(2)
ROW = row_web(3)
TRIANGLE = ring_web(3)
# Low ones: the totals are 6, 9, 9 and 14; one that isn't low, with the total 12.
LOW = [
    (PAIR, ((1, 2), (3,))), (ROW, ((1, 3, 2), (5, 4))), (TRIANGLE, ((1, 2, 3), (6, 5, 4))),
    (ring_web(5), ((1, 4, 2, 5, 3), (9, 10, 8, 7, 6))),
]
HIGH = (TRIANGLE, ((4, 5, 6), (3, 2, 1)))


def own_total(web, thing):
    """The total, or None where it is no total numbering."""
    p, q = web[0], len(web[1])
    if type(thing) is not tuple or [type(part) for part in thing] != [tuple, tuple]:
        return None
    if [len(part) for part in thing] != [p, q]:
        return None
    numbers = [number for part in thing for number in part]
    if any(type(number) is not int for number in numbers) or sorted(numbers) != list(range(1, p + q + 1)):
        return None
    totals = {thing[0][a] + thing[0][b] + thing[1][k] for k, (a, b) in enumerate(web[1])}
    return totals.pop() if len(totals) == 1 else None


def own_low(web, thing):
    return own_total(web, thing) is not None and sorted(thing[0]) == list(range(1, web[0] + 1))


@functools.lru_cache(maxsize=None)
def all_totals(web):
    """Each total numbering of a small web, by going through all numbers of the places and all totals."""
    found = []
    most = web[0] + len(web[1])
    for places in itertools.permutations(range(1, most + 1), web[0]):
        for total in range(6, 3 * most + 1):
            ties = tuple(total - places[a] - places[b] for a, b in web[1])
            if own_total(web, (places, ties)) is not None:
                found.append((places, ties))
    return found


def small_tied_webs():
    """One web of each shape with a tie, of at most eight numbers in all."""
    webs = unlike_webs(2) + unlike_webs(3) + unlike_webs(4) + unlike_webs(5)
    return [web for web in webs if web[1] and web[0] + len(web[1]) <= 8]


def spoilt_totals(web, thing):
    """Whatever comes near a total numbering and is none."""
    places, ties = thing
    most = len(places) + len(ties)
    found = [list(thing), (list(places), ties), (places, list(ties)), (ties, places), (places,), (places, ties, ())]
    found += [places + ties, (places + ties, ()), (places + (most + 1,), ties), (places, ties + (most + 1,))]
    found += [(places[:-1], ties), (places, ties[:-1]), (places + ties[:1], ties[1:]), (places[:-1], ties + places[-1:])]
    found += [{0: places, 1: ties}, str(thing), (thing,), (places, None), (None, ties), (str(places), str(ties))]
    for k in range(len(places)):
        for odd in (0, -1, most + 1, -places[k], 10 ** 99, True, False, None, "1", str(places[k]), (places[k],), [1]):
            found.append((changed(places, k, odd), ties))
        found += [(changed(places, k, places[j]), ties) for j in range(len(places)) if j != k]
        found += [(changed(places, k, tie), changed(ties, j, places[k])) for j, tie in enumerate(ties)]
        found += [(changed(changed(places, k, places[j]), j, places[k]), ties) for j in range(k)]
    for k in range(len(ties)):
        for odd in (0, -1, most + 1, -ties[k], 10 ** 99, True, False, None, "1", str(ties[k]), (ties[k],), [1]):
            found.append((places, changed(ties, k, odd)))
        found += [(places, changed(ties, k, ties[j])) for j in range(len(ties)) if j != k]
        found += [(places, changed(changed(ties, k, ties[j]), j, ties[k])) for j in range(k)]
    return [one for one in found if own_total(web, one) is None] + odd_things()


def great_totals():
    kinds = [("spine", (0,) * 40), ("ring", 39), ("sides", 6, 10), ("sides", 39, 1), ("spine", (19, 19))]
    return [(web_for(kind), total_for(kind)) for kind in kinds]


class TotalCase(unittest.TestCase):
    def refuse(self, asked, web, thing):
        with self.assertRaises(NoNumber) as taken:
            asked(web, thing)
        self.assertIs(type(taken.exception), NoNumber, repr(thing))


class TotalGoodTest(TotalCase):
    def test_written_out(self):
        for web, thing in LOW:
            self.assertIs(total_good(web, thing), True)
            self.assertIs(low_good(web, thing), True)
        self.assertIs(total_good(*HIGH), True)
        self.assertIs(low_good(*HIGH), False)
        self.assertEqual([total_of(web, thing) for web, thing in LOW], [6, 9, 9, 14])
        self.assertEqual(total_of(*HIGH), 12)
        self.assertIs(total_good(PAIR, ((1, 3), (2,))), True)
        self.assertIs(low_good(PAIR, ((1, 3), (2,))), False)

    def test_each_way_of_small_webs(self):
        for web in [PAIR, ROW, TRIANGLE, (3, ((0, 1),)), (4, ((0, 1), (2, 3)))]:
            p, most = web[0], web[0] + len(web[1])
            for way in itertools.permutations(range(1, most + 1)):
                thing = (way[:p], way[p:])
                self.assertIs(total_good(web, thing), own_total(web, thing) is not None)
                self.assertIs(low_good(web, thing), own_low(web, thing))

    def test_places_without_ties(self):
        web = (3, ((0, 2),))
        self.assertIs(total_good(web, ((1, 2, 3), (4,))), True)
        self.assertEqual(total_of(web, ((1, 2, 3), (4,))), 8)
        self.assertIs(low_good(web, ((1, 4, 3), (2,))), False)
        self.assertIs(total_good(web, ((1, 4, 3), (2,))), True)

    def test_numbers_beyond_are_none(self):
        self.assertIs(total_good(PAIR, ((2, 3), (4,))), False)
        self.assertIs(total_good(PAIR, ((0, 1), (2,))), False)
        self.assertIs(total_good(TRIANGLE, ((1, 1, 1), (2, 2, 2))), False)

    def test_what_comes_near(self):
        for web, thing in LOW + [HIGH] + great_totals()[:2]:
            for wrong in spoilt_totals(web, thing):
                self.assertIs(total_good(web, wrong), False, repr(wrong))
                self.assertIs(low_good(web, wrong), False, repr(wrong))
                for asked in (total_of, opposite_total, low_opposite):
                    self.refuse(asked, web, wrong)

    def test_the_total_of_each(self):
        for web in small_tied_webs():
            for thing in all_totals(web)[:200]:
                self.assertEqual(total_of(web, thing), own_total(web, thing))


class OppositeTest(TotalCase):
    def test_written_out(self):
        self.assertEqual(opposite_total(*LOW[2]), ((6, 5, 4), (1, 2, 3)))
        self.assertEqual(opposite_total(PAIR, ((1, 2), (3,))), ((3, 2), (1,)))
        self.assertEqual(low_opposite(PAIR, ((1, 2), (3,))), ((2, 1), (3,)))
        self.assertEqual(low_opposite(*LOW[1]), ((3, 1, 2), (4, 5)))

    def test_all_of_small_webs_and_great_ones(self):
        for web, thing in [(web, thing) for web in small_tied_webs() for thing in all_totals(web)[:80]] + great_totals():
            p, q = web[0], len(web[1])
            told = opposite_total(web, thing)
            self.assertEqual(told, tuple(tuple(p + q + 1 - number for number in part) for part in thing))
            self.assertEqual(own_total(web, told) + own_total(web, thing), 3 * (p + q + 1))
            self.assertEqual(opposite_total(web, told), thing)

    def test_low_ones_of_small_webs_and_great_ones(self):
        low = [(web, thing) for web in small_tied_webs() for thing in all_totals(web) if own_low(web, thing)]
        self.assertGreater(len(low), 100)
        for web, thing in low + great_totals()[:2]:
            p, q = web[0], len(web[1])
            told = low_opposite(web, thing)
            self.assertTrue(own_low(web, told))
            self.assertEqual(told[0], tuple(p + 1 - number for number in thing[0]))
            self.assertEqual(own_total(web, told) + own_total(web, thing), 4 * p + q + 3)
            self.assertEqual(low_opposite(web, told), thing)

    def test_low_opposite_refuses_what_is_not_low(self):
        self.refuse(low_opposite, *HIGH)
        self.refuse(low_opposite, PAIR, ((1, 3), (2,)))
        for web in small_tied_webs():
            for thing in all_totals(web)[:80]:
                if not own_low(web, thing):
                    self.refuse(low_opposite, web, thing)


class LowByTest(TotalCase):
    def test_written_out(self):
        for web, thing in LOW:
            self.assertEqual(low_by(web, thing[0]), thing)
        self.assertIsNone(low_by(ring_web(4), (1, 2, 3, 4)))
        self.assertIsNone(low_by((4, ((0, 1), (2, 3))), (1, 4, 2, 3)))
        self.assertIsNone(low_by((4, ((0, 1), (2, 3))), (1, 3, 2, 4)))
        self.assertEqual(low_by((3, ((0, 2),)), (3, 1, 2)), ((3, 1, 2), (4,)))

    def test_each_order_of_small_webs(self):
        kinds = {True: 0, False: 0}
        for web in [web for web in small_webs() if web[1]] + webs_of(5)[50:900:43]:
            low = {}
            for places in itertools.permutations(range(1, web[0] + 1)):
                sums = sorted(places[a] + places[b] for a, b in web[1])
                there = sums == [sums[0] + k for k in range(len(sums))]
                told = low_by(web, places)
                kinds[there] += 1
                if there:
                    self.assertEqual(told[0], places)
                    self.assertTrue(own_low(web, told))
                    low[places] = told
                else:
                    self.assertIsNone(told)
            if web[0] + len(web[1]) <= 7:
                self.assertEqual(sorted(low.values()), sorted(one for one in all_totals(web) if own_low(web, one)))
        self.assertGreater(min(kinds.values()), 100)

    def test_great_ones(self):
        for web, thing in great_totals()[:2]:
            self.assertEqual(low_by(web, thing[0]), thing)
            self.assertIsNone(low_by(web, changed(changed(thing[0], 0, thing[0][1]), 1, thing[0][0])))

    def test_what_is_refused(self):
        for web, thing in LOW + great_totals()[:1]:
            row = thing[0]
            wrong = [list(row), row + (len(row) + 1,), row[:-1], (row,), thing, {0: row}, str(row), row + (None,)]
            wrong += [tuple(number - 1 for number in row), tuple(number + 1 for number in row)]
            for k, number in enumerate(row):
                for odd in (0, -1, len(row) + 1, -number, 10 ** 99, True, False, None, "1", str(number), (number,), [1]):
                    wrong.append(changed(row, k, odd))
                wrong += [changed(row, k, row[j]) for j in range(len(row)) if j != k]
            for one in wrong + odd_things():
                self.refuse(low_by, web, one)


class SpanTest(unittest.TestCase):
    def test_written_out(self):
        self.assertEqual(total_span(PAIR), (6, 6))
        self.assertEqual(total_span(TRIANGLE), (9, 12))
        self.assertEqual(total_span(ROW), (8, 10))

    def test_all_ways_of_small_webs(self):
        webs = [web for web in small_webs() if web[1] and web[0] + len(web[1]) <= 7]
        for web in webs + [(5, ((0, 1), (0, 2))), (5, ((1, 4),)), ring_web(4), (4, ((0, 1), (0, 2), (0, 3), (1, 2)))]:
            often = own_degrees(web) + [1] * len(web[1])
            worths = [sum(map(int.__mul__, often, way)) for way in itertools.permutations(range(1, len(often) + 1))]
            q = len(web[1])
            low = next(n for n in range(1000) if n * q >= min(worths))
            high = max(n for n in range(1000) if n * q <= max(worths))
            told = total_span(web)
            self.assertIs(type(told), tuple)
            self.assertEqual(told, (low, high), web)

    def test_great_webs_by_counts(self):
        webs = [greatest_web(), row_web(40), star_web(40), sides_web(6, 10), pieced([row_web(2), (38, ())]), ring_web(40)]
        webs += [pieced([web_for(("full", 11)), (29, ())]), pieced([star_web(30), (10, ())]), pieced([ring_web(3)] * 13)]
        for web in webs + [web_for(kind) for kind in fans_and_wheels()[1::5]]:
            degrees, q = own_degrees(web), len(web[1])
            most = web[0] + q
            least = great = 0
            # At each level count those that are taken so often or more; they have the least, or the greatest, numbers.
            for level in range(1, max(degrees) + 1):
                many = sum(degree >= level for degree in degrees) + (q if level == 1 else 0)
                least += sum(range(1, many + 1))
                great += sum(range(most - many + 1, most + 1))
            self.assertEqual(total_span(web), (-(-least // q), great // q))

    def test_each_total_lies_in_it(self):
        for web in small_tied_webs():
            low, high = total_span(web)
            for thing in all_totals(web):
                self.assertTrue(low <= own_total(web, thing) <= high)
        for kind in all_sides() + many_spines()[::9] + all_rings()[::2]:
            low, high = total_span(web_for(kind))
            self.assertTrue(low <= own_total(web_for(kind), total_for(kind)) <= high)


def own_bars(web):
    p, q, degrees = web[0], len(web[1]), own_degrees(web)
    half = sum(range(1, p + q + 1))
    found = [("share", g) for g in range(2, 70) if q % g == 0 and half % g and all(d % g == 1 for d in degrees)]
    return found + ([("ties",)] if q - 2 * p + 3 > 0 else [])


class TotalBarTest(unittest.TestCase):
    def look(self, web):
        tried = [("share", g) for g in range(-3, 66)] + [("ties",)]
        due = own_bars(web)
        self.assertEqual([bar for bar in tried if total_bar_holds(web, bar)], due)
        told = total_bars(web)
        self.assertIs(type(told), list)
        self.assertEqual(told, due)

    def test_written_out(self):
        self.assertEqual(total_bars(web_for(("full", 4))), [("share", 2), ("ties",)])
        self.assertEqual(total_bars(web_for(("full", 5))), [("ties",)])
        self.assertEqual(total_bars(TRIANGLE), [])
        self.assertEqual(total_bars(PAIR), [])
        # Six ties and five places of which one has none: as many odd counts, but the place that has none.
        self.assertEqual(total_bars(pieced([web_for(("full", 4)), (1, ())])), [])

    def test_more_than_one_share(self):
        many = [pieced([row_web(2)] * count) for count in range(1, 21)]
        for web in many:
            self.look(web)
        # Ten ties, twenty places: the numbers come to 465, which 2 and 10 don't divide and 5 does.
        self.assertEqual(total_bars(many[9]), [("share", 2), ("share", 10)])

    def test_the_edge_of_ties(self):
        for many in range(3, 12):
            pairs = list(itertools.combinations(range(many), 2))
            for q in (2 * many - 4, 2 * many - 3, 2 * many - 2):
                if 1 <= q <= len(pairs):
                    web = (many, tuple(pairs[:q]))
                    self.assertIs(total_bar_holds(web, ("ties",)), q == 2 * many - 2)
                    self.assertIs(("ties",) in total_bars(web), q == 2 * many - 2)
        self.assertIs(total_bar_holds(PAIR, ("ties",)), False)

    def test_small_and_great_webs(self):
        for web in [web for web in small_webs() + webs_of(5)[1::7] if web[1]] + [greatest_web()]:
            self.look(web)
        for kind in all_rings() + all_sides() + full_kinds()[1:] + fans_and_wheels() + many_spines()[::7]:
            self.look(web_for(kind))

    def test_what_comes_near(self):
        for web in (web_for(("full", 4)), TRIANGLE, PAIR, greatest_web(), pieced([row_web(2)] * 6)):
            for thing in odd_bars() + [("ties", None), ("ties", "ties"), ("places",), ("all",)]:
                self.assertIs(total_bar_holds(web, thing), False, repr(thing))

    def test_the_list_is_the_askers_own(self):
        web = web_for(("full", 4))
        total_bars(web).append(("share", 3))
        self.assertEqual(total_bars(web), [("share", 2), ("ties",)])


class TotalForTest(unittest.TestCase):
    def test_each_spine_is_low(self):
        for kind in many_spines():
            self.assertTrue(own_low(web_for(kind), total_for(kind)), kind)

    def test_each_odd_ring_is_low(self):
        for n in range(3, 41, 2):
            self.assertTrue(own_low(ring_web(n), total_for(("ring", n))), n)

    def test_each_sides(self):
        for kind in all_sides():
            self.assertIsNotNone(own_total(web_for(kind), total_for(kind)), kind)

    def test_what_is_refused(self):
        rings = [("ring", n) for n in range(4, 41, 2)]
        for thing in rings + full_kinds() + fans_and_wheels() + [("spine", (0,))] + NO_KINDS + odd_things():
            with self.assertRaises(NoKind) as taken:
                total_for(thing)
            self.assertIs(type(taken.exception), NoKind, repr(thing))


class WholeStageTest(unittest.TestCase):
    def test_no_web_has_both_a_numbering_and_its_bar(self):
        shares = ties = 0
        for web in small_tied_webs() + [web_for(("full", 4))]:
            totals = all_totals(web)
            for bar in total_bars(web):
                shares += bar[0] == "share"
                ties += bar[0] == "ties"
                barred = [one for one in totals if bar[0] == "share" or own_low(web, one)]
                self.assertEqual(barred, [])
        self.assertTrue(shares and ties)


if __name__ == "__main__":
    unittest.main()
