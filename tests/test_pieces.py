"""Promises 1.3 and 1.4: ties at places, pieces, trees, hubs and sides."""

import itertools
import unittest

from tests.things import greatest_web, odd_things, ring_web, row_web, small_webs, webs_of
from tienumbers.errors import NoPlace
from tienumbers.webs import hubs_of, is_web, pieces_of, sides_of, ties_at, tie_counts, tree_like

LONE = (1, ())
BARE = (40, ())
# Two pieces, the second without two sides, and place 3 without ties.
PARTED = (8, ((0, 5), (1, 2), (1, 7), (2, 7), (4, 5), (6, 7)))


def tried_webs():
    some_of_five = webs_of(5)[::7]
    return small_webs() + some_of_five + [BARE, PARTED, row_web(40), ring_web(39), ring_web(40), greatest_web()]


def tied(web, one, other):
    return (min(one, other), max(one, other)) in web[1]


def merged_pieces(web):
    """The pieces by merging, one tie after the other: another way than the program's."""
    piece_of = list(range(web[0]))
    for a, b in web[1]:
        gone = max(piece_of[a], piece_of[b])
        kept = min(piece_of[a], piece_of[b])
        piece_of = [kept if piece == gone else piece for piece in piece_of]
    least = sorted(set(piece_of))
    return [tuple(place for place in range(web[0]) if piece_of[place] == piece) for piece in least]


def tried_sides(web):
    """All ways of sides that part each tie, with the least place of each piece on side 0."""
    least = [piece[0] for piece in merged_pieces(web)]
    found = []
    for sides in itertools.product((0, 1), repeat=web[0]):
        if all(sides[place] == 0 for place in least) and all(sides[a] != sides[b] for a, b in web[1]):
            found.append(sides)
    return found


class TiesAtTest(unittest.TestCase):
    def test_each_place_of_each_web(self):
        for web in tried_webs():
            self.assertTrue(is_web(web))
            for place in range(web[0]):
                told = ties_at(web, place)
                self.assertIsInstance(told, list)
                self.assertEqual(told, [k for k in range(len(web[1])) if place in web[1][k]])

    def test_written_out(self):
        told = [ties_at(PARTED, place) for place in range(8)]
        self.assertEqual(told, [[0], [1, 2], [1, 3], [], [4], [0, 4], [5], [2, 3, 5]])
        self.assertEqual(ties_at(LONE, 0), [])
        self.assertEqual(ties_at(BARE, 39), [])
        self.assertEqual(ties_at(greatest_web(), 0), list(range(38)))
        self.assertEqual(ties_at(greatest_web(), 1), list(range(38, 60)))
        self.assertEqual(ties_at(greatest_web(), 39), [37])

    def test_what_is_no_place(self):
        for web in (LONE, (2, ((0, 1),)), PARTED, BARE, greatest_web()):
            for place in odd_things() + [web[0], web[0] + 1, -1, -web[0], (0, 1), [0, 1]]:
                with self.assertRaises(NoPlace) as taken:
                    ties_at(web, place)
                self.assertIs(type(taken.exception), NoPlace)

    def test_truths_are_no_places(self):
        for place in (True, False):
            with self.assertRaises(NoPlace):
                ties_at((3, ((0, 1), (1, 2))), place)

    def test_the_list_is_the_askers_own(self):
        told = ties_at(PARTED, 7)
        told.append(99)
        told[0] = 98
        self.assertEqual(ties_at(PARTED, 7), [2, 3, 5])


class TieCountsTest(unittest.TestCase):
    def test_each_web(self):
        for web in tried_webs():
            counts = tie_counts(web)
            self.assertIsInstance(counts, tuple)
            self.assertEqual(counts, tuple(sum(place in tie for tie in web[1]) for place in range(web[0])))

    def test_written_out(self):
        self.assertEqual(tie_counts(LONE), (0,))
        self.assertEqual(tie_counts(BARE), (0,) * 40)
        self.assertEqual(tie_counts(PARTED), (1, 2, 2, 0, 1, 2, 1, 3))
        self.assertEqual(tie_counts(greatest_web()), (38, 22) + (2,) * 22 + (1,) * 16)


class PiecesTest(unittest.TestCase):
    def test_each_web(self):
        for web in tried_webs():
            told = pieces_of(web)
            self.assertIsInstance(told, list)
            self.assertEqual(told, merged_pieces(web))

    def test_written_out(self):
        self.assertEqual(pieces_of(LONE), [(0,)])
        self.assertEqual(pieces_of(BARE), [(place,) for place in range(40)])
        self.assertEqual(pieces_of(PARTED), [(0, 4, 5), (1, 2, 6, 7), (3,)])
        self.assertEqual(pieces_of((4, ((0, 3), (1, 2)))), [(0, 3), (1, 2)])
        self.assertEqual(pieces_of((6, ((0, 5), (1, 4), (2, 3), (3, 5)))), [(0, 2, 3, 5), (1, 4)])
        self.assertEqual(pieces_of(row_web(40)), [tuple(range(40))])
        self.assertEqual(pieces_of(greatest_web()), [tuple(range(40))])

    def test_the_list_is_the_askers_own(self):
        told = pieces_of(PARTED)
        told.clear()
        self.assertEqual(pieces_of(PARTED), [(0, 4, 5), (1, 2, 6, 7), (3,)])


class TreeLikeTest(unittest.TestCase):
    def test_each_web(self):
        for web in tried_webs():
            due = len(merged_pieces(web)) == 1 and len(web[1]) == web[0] - 1
            self.assertIs(tree_like(web), due, repr(web))

    def test_written_out(self):
        self.assertIs(tree_like(LONE), True)
        self.assertIs(tree_like((2, ((0, 1),))), True)
        self.assertIs(tree_like((2, ())), False)
        self.assertIs(tree_like(row_web(40)), True)
        self.assertIs(tree_like(ring_web(40)), False)
        self.assertIs(tree_like(BARE), False)

    def test_as_many_ties_as_a_tree_but_two_pieces(self):
        self.assertIs(tree_like((4, ((0, 1), (0, 2), (1, 2)))), False)


class HubsTest(unittest.TestCase):
    def test_each_web(self):
        for web in tried_webs():
            told = hubs_of(web)
            self.assertIsInstance(told, list)
            places = range(web[0])
            due = [place for place in places if all(tied(web, place, other) for other in places if other != place)]
            self.assertEqual(told, due)

    def test_written_out(self):
        self.assertEqual(hubs_of(LONE), [0])
        self.assertEqual(hubs_of((2, ())), [])
        self.assertEqual(hubs_of((2, ((0, 1),))), [0, 1])
        self.assertEqual(hubs_of((4, ((0, 3), (1, 3), (2, 3)))), [3])
        self.assertEqual(hubs_of((40, tuple((0, other) for other in range(1, 40)))), [0])
        self.assertEqual(hubs_of(greatest_web()), [])

    def test_the_list_is_the_askers_own(self):
        web = (3, ((0, 1), (0, 2), (1, 2)))
        told = hubs_of(web)
        told.pop()
        self.assertEqual(hubs_of(web), [0, 1, 2])


class SidesTest(unittest.TestCase):
    def test_each_web_that_is_small(self):
        for web in tried_webs():
            if web[0] <= 8:
                ways = tried_sides(web)
                self.assertEqual(sides_of(web), ways[0] if ways else None, repr(web))
                self.assertLessEqual(len(ways), 1)

    def test_written_out(self):
        self.assertEqual(sides_of(LONE), (0,))
        self.assertEqual(sides_of(BARE), (0,) * 40)
        self.assertEqual(sides_of((2, ((0, 1),))), (0, 1))
        self.assertIsNone(sides_of((3, ((0, 1), (0, 2), (1, 2)))))
        self.assertEqual(sides_of((4, ((0, 1), (0, 3), (1, 2), (2, 3)))), (0, 1, 0, 1))

    def test_several_pieces(self):
        self.assertEqual(sides_of((7, ((0, 6), (1, 3), (3, 4), (5, 6)))), (0, 0, 0, 1, 0, 0, 1))
        self.assertIsNone(sides_of(PARTED))
        self.assertIsNone(sides_of((6, ((0, 1), (3, 4), (3, 5), (4, 5)))))

    def test_great_webs(self):
        self.assertEqual(sides_of(row_web(40)), (0, 1) * 20)
        self.assertEqual(sides_of(ring_web(40)), (0, 1) * 20)
        self.assertIsNone(sides_of(ring_web(39)))
        self.assertEqual(sides_of(greatest_web()), (0, 0) + (1,) * 38)


if __name__ == "__main__":
    unittest.main()
