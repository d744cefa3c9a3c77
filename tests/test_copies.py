"""Promises 9.1 to 9.4: full webs cut into copies of a lesser one, and where two places are tied."""

import itertools
import unittest

from tests.things import (
    all_steps, greatest_web, odd_things, own_parting, ring_web, row_web, sides_numbers, sides_web, small_webs,
    star_web, webs_of, zigzag,
)
from tienumbers.copies import cut_by, cut_good, folds_by, found_in
from tienumbers.errors import NoPlace, TooGreat
from tienumbers.kinds import web_for
from tienumbers.making import steps_for

PAIR = row_web(2)
TRIANGLE = ring_web(3)
LONER = (3, ((0, 2),))
GREAT = 10 ** 99
# The seven lines of three places each, by which the full web of seven places is cut.
LINES = [(0, 1, 3), (1, 2, 4), (2, 3, 5), (3, 4, 6), (4, 5, 0), (5, 6, 1), (6, 0, 2)]


def own_ties(web, copied):
    return [frozenset((copied[a], copied[b])) for a, b in web[1]]


def own_cut(web, size, thing):
    """Whether it is a cut, by counting each tie of the full web."""
    if type(thing) is not list:
        return False
    for copied in thing:
        if type(copied) is not tuple or len(copied) != web[0]:
            return False
        if any(type(seat) is not int or not 0 <= seat < size for seat in copied) or len(set(copied)) < web[0]:
            return False
    told = [tie for copied in thing for tie in own_ties(web, copied)]
    return all(told.count(frozenset(tie)) == 1 for tie in itertools.combinations(range(size), 2))


def numbered_webs():
    """Webs of one to thirty ties, each with a steps numbering."""
    found = [(web, numbers) for web in small_webs() if web[1] for numbers in all_steps(web)[:6]]
    found += [(web, all_steps(web)[-1]) for web in webs_of(5)[40:400:31] if len(web[1]) <= 7 and all_steps(web)]
    found += [(row_web(many), zigzag(many)) for many in range(2, 32)]
    found += [(sides_web(m, n), sides_numbers(m, n)) for m, n in ((5, 6), (1, 30), (2, 15), (4, 7), (3, 3))]
    for kind in (("ring", 28), ("ring", 27), ("spine", (3, 0, 7, 1)), ("spine", (15, 14))):
        found.append((web_for(kind), steps_for(kind)[1]))
    return found


class CutGoodTest(unittest.TestCase):
    def test_by_hand(self):
        self.assertIs(cut_good(TRIANGLE, 7, LINES), True)
        self.assertIs(cut_good(TRIANGLE, 3, [(2, 0, 1)]), True)
        self.assertIs(cut_good(PAIR, 2, [(0, 1)]), True)
        self.assertIs(cut_good(PAIR, 2, [(1, 0)]), True)
        self.assertIs(cut_good(PAIR, 3, [(0, 1), (2, 1), (0, 2)]), True)
        self.assertIs(cut_good(row_web(3), 3, [(0, 1, 2)]), False)
        self.assertIs(cut_good(row_web(3), 4, [(0, 1, 2), (1, 3, 0), (0, 2, 3)]), True)
        self.assertIs(cut_good(LONER, 3, [(0, 1, 2), (1, 2, 0), (2, 0, 1)]), True)
        self.assertIs(cut_good(LONER, 2, [(0, 1, 2)]), False)

    def test_the_full_web_of_one_place(self):
        for web in (PAIR, TRIANGLE, greatest_web()):
            self.assertIs(cut_good(web, 1, []), True)
            for thing in [[()], [(0,)], [(0, 0)], [(0, 1)], (), {}, None, "", [[]]]:
                self.assertIs(cut_good(web, 1, thing), False)
            self.assertIs(cut_good(web, 2, []), False)

    def test_each_list_of_few_copies(self):
        for web, size in ((PAIR, 3), (row_web(3), 3), (LONER, 3)):
            copies = list(itertools.permutations(range(size), web[0]))
            for many in range(4):
                for thing in itertools.product(copies, repeat=many):
                    self.assertIs(cut_good(web, size, list(thing)), own_cut(web, size, list(thing)))

    def test_what_comes_near(self):
        for web, size, cut in ((TRIANGLE, 7, LINES), (row_web(5), 9, cut_by(row_web(5), zigzag(5))),
                               (LONER, 3, [(0, 1, 2), (1, 2, 0), (2, 0, 1)])):
            self.assertIs(cut_good(web, size, cut), True)
            self.assertIs(cut_good(web, size, cut[::-1]), True)
            wrong = [tuple(cut), {0: cut}, dict(enumerate(cut)), str(cut), cut + [()], cut + [None], [cut]]
            for k, copied in enumerate(cut):
                wrong += [cut[:k] + cut[k + 1:], cut + [copied], cut[:k] + [cut[k - 1]] + cut[k + 1:]]
                others = [list(copied), copied + (0,), copied[:-1], (copied,), None, str(copied), dict(enumerate(copied))]
                for seat, place in enumerate(copied):
                    for odd in (-1, size, place + size, place - size, GREAT, -GREAT, True, False, None, "0", (place,), [0]):
                        others.append(copied[:seat] + (odd,) + copied[seat + 1:])
                    others += [copied[:seat] + (other,) + copied[seat + 1:] for other in range(size)]
                    for later in range(seat):
                        swapped = list(copied)
                        swapped[seat], swapped[later] = copied[later], copied[seat]
                        others.append(tuple(swapped))
                wrong += [cut[:k] + [other] + cut[k + 1:] for other in others]
            for thing in wrong + odd_things():
                self.assertIs(cut_good(web, size, thing), own_cut(web, size, thing), repr(thing))
            self.assertIs(cut_good(web, size + 1, cut), False)
            self.assertIs(cut_good(web, size - 1, cut), False)

    def test_places_without_ties_count_too(self):
        thing = [(0, 0, 2), (1, 2, 0), (2, 0, 1)]
        self.assertIs(cut_good(LONER, 3, thing), False)
        self.assertIs(cut_good(LONER, 3, [(0, 3, 2), (1, 2, 0), (2, 0, 1)]), False)
        self.assertIs(cut_good(LONER, 3, [(0, None, 2), (1, 2, 0), (2, 0, 1)]), False)

    def test_the_greatest(self):
        cut = cut_by(sides_web(5, 6), sides_numbers(5, 6))
        self.assertIs(cut_good(sides_web(5, 6), 61, cut), True)
        self.assertIs(cut_good(sides_web(5, 6), 61, cut[1:]), False)


class CutByTest(unittest.TestCase):
    def test_written_out(self):
        self.assertEqual(cut_by(PAIR, (0, 1)), [(0, 1), (1, 2), (2, 0)])
        self.assertEqual(cut_by(PAIR, (1, 0)), [(1, 0), (2, 1), (0, 2)])
        self.assertEqual(cut_by(TRIANGLE, (0, 1, 3)), LINES)

    def test_each_tie_of_the_full_web_once(self):
        seen = set()
        for web, numbers in numbered_webs():
            q = len(web[1])
            size = 2 * q + 1
            told = cut_by(web, numbers)
            self.assertEqual((type(told), len(told)), (list, size))
            for t, copied in enumerate(told):
                self.assertEqual(copied, tuple((number + t) % size for number in numbers))
            ties = [tie for copied in told for tie in own_ties(web, copied)]
            self.assertEqual(len(ties), size * (size - 1) // 2)
            self.assertEqual(set(ties), set(map(frozenset, itertools.combinations(range(size), 2))))
            self.assertIs(cut_good(web, size, told), True)
            seen.add(q)
        self.assertEqual(seen, set(range(1, 31)))

    def test_each_place_has_one_tie_fewer_than_the_size(self):
        for web, numbers in numbered_webs()[::4]:
            told = cut_by(web, numbers)
            ends = [end for copied in told for tie in own_ties(web, copied) for end in tie]
            self.assertEqual({ends.count(place) for place in range(len(told))}, {len(told) - 1})

    def test_too_great(self):
        for web, numbers in ((row_web(32), zigzag(32)), (row_web(40), zigzag(40)), (star_web(32), tuple(range(32))),
                             (sides_web(6, 10), sides_numbers(6, 10))):
            for asked, given in ((cut_by, ()), (found_in, (0, 1)), (found_in, (0, 0)), (found_in, (None, -1))):
                with self.assertRaises(TooGreat) as taken:
                    asked(web, numbers, *given)
                self.assertIs(type(taken.exception), TooGreat)
                self.assertEqual((taken.exception.many, taken.exception.most), (len(web[1]), 30))

    def test_the_list_is_the_askers_own(self):
        told = cut_by(PAIR, (0, 1))
        told.append(None)
        told[0] = ()
        self.assertEqual(cut_by(PAIR, (0, 1)), [(0, 1), (1, 2), (2, 0)])


class FoundInTest(unittest.TestCase):
    def test_written_out(self):
        self.assertEqual(found_in(PAIR, (0, 1), 0, 1), (0, 0))
        self.assertEqual(found_in(PAIR, (0, 1), 0, 2), (2, 0))
        self.assertEqual(found_in(PAIR, (1, 0), 1, 2), (1, 0))
        self.assertEqual(found_in(TRIANGLE, (0, 1, 3), 3, 5), (2, 2))
        self.assertEqual(found_in(TRIANGLE, (0, 1, 3), 0, 4), (4, 1))

    def test_each_two_places(self):
        for web, numbers in numbered_webs()[::3] + numbered_webs()[-9:]:
            where = {}
            for t, copied in enumerate(cut_by(web, numbers)):
                for k, tie in enumerate(own_ties(web, copied)):
                    where[tie] = (t, k)
            for one, other in itertools.permutations(range(2 * len(web[1]) + 1), 2):
                told = found_in(web, numbers, one, other)
                self.assertIs(type(told), tuple)
                self.assertEqual(told, where[frozenset((one, other))])

    def test_what_is_no_place(self):
        for web, numbers in ((PAIR, (0, 1)), (TRIANGLE, (0, 1, 3)), (row_web(31), zigzag(31))):
            size = 2 * len(web[1]) + 1
            wrong = [-1, size, size + 1, GREAT, -GREAT, True, False, None, "0", "1", (0,), [0], {0: 0}]
            pairs = [(0, thing) for thing in wrong] + [(thing, 0) for thing in wrong] + [(thing, thing) for thing in wrong]
            pairs += [(place, place) for place in range(size)]
            for thing in odd_things():
                if type(thing) is not int or thing not in range(size):
                    pairs += [(2, thing), (thing, 2)]
            for one, other in pairs:
                with self.assertRaises(NoPlace) as taken:
                    found_in(web, numbers, one, other)
                self.assertIs(type(taken.exception), NoPlace, (one, other))


class FoldsByTest(unittest.TestCase):
    def parted(self):
        found = [(web, numbers) for web, numbers in numbered_webs() if own_parting(web, numbers)]
        self.assertGreater(len(found), 40)
        return found

    def test_written_out(self):
        self.assertEqual(folds_by(PAIR, (0, 1), 1), [(0, 1), (1, 2), (2, 0)])
        due = [(0, 1), (1, 2), (2, 3), (3, 4), (4, 0), (0, 2), (1, 3), (2, 4), (3, 0), (4, 1)]
        self.assertEqual(folds_by(PAIR, (0, 1), 2), due)
        self.assertEqual(folds_by(PAIR, (1, 0), 2), [(b, a) for a, b in due])

    def test_one_fold_and_more(self):
        many = set()
        for web, numbers in self.parted():
            q, (t,) = len(web[1]), own_parting(web, numbers)
            self.assertEqual(folds_by(web, numbers, 1), cut_by(web, numbers))
            for folds in sorted({1, 2, 3, 30 // q} - {0}):
                if q * folds > 30:
                    continue
                size = 2 * q * folds + 1
                told = folds_by(web, numbers, folds)
                due = [tuple((n + at + (j * q if n > t else 0)) % size for n in numbers)
                       for j in range(folds) for at in range(size)]
                self.assertIs(type(told), list)
                self.assertEqual(told, due)
                ties = [tie for copied in told for tie in own_ties(web, copied)]
                self.assertEqual(len(ties), size * (size - 1) // 2)
                self.assertEqual(len(set(ties)), len(ties))
                self.assertIs(cut_good(web, size, told), True)
                many.add(q * folds)
        self.assertTrue({2, 30, 29, 28} <= many)

    def test_too_great(self):
        for web, numbers, folds in ((PAIR, (0, 1), 31), (PAIR, (0, 1), GREAT), (row_web(4), zigzag(4), 11),
                                    (row_web(31), zigzag(31), 2), (row_web(32), zigzag(32), 1), (row_web(40), zigzag(40), 2),
                                    (sides_web(4, 4), sides_numbers(4, 4), 2)):
            with self.assertRaises(TooGreat) as taken:
                folds_by(web, numbers, folds)
            self.assertIs(type(taken.exception), TooGreat)
            self.assertEqual((taken.exception.many, taken.exception.most), (len(web[1]) * folds, 30))

    def test_the_list_is_the_askers_own(self):
        told = folds_by(PAIR, (0, 1), 2)
        told.clear()
        self.assertEqual(len(folds_by(PAIR, (0, 1), 2)), 10)


if __name__ == "__main__":
    unittest.main()
