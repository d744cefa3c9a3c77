"""Promises 7.2 and 7.3: squares, those of each size, and what is made of them."""

import itertools
import unittest

from tests.things import odd_things
from tienumbers.errors import NoSquare
from tienumbers.squares import moved_square, opposite_square, square_for, square_good, turned_square

SIZES = (1, 3, 4, 5, 6, 7)
THREE = ((2, 7, 6), (9, 5, 1), (4, 3, 8))


def own_square(thing):
    """Whether it is a square, of whichever size."""
    if type(thing) is not tuple or not thing:
        return False
    size = len(thing)
    if any(type(row) is not tuple or len(row) != size for row in thing):
        return False
    numbers = [number for row in thing for number in row]
    if any(type(number) is not int for number in numbers) or set(numbers) != set(range(1, size * size + 1)):
        return False
    due = sum(numbers) // size
    return all(sum(row) == due for row in thing) and all(sum(column) == due for column in zip(*thing))


def with_row(square, k, row):
    return square[:k] + (row,) + square[k + 1:]


def with_cell(square, i, j, number):
    return with_row(square, i, square[i][:j] + (number,) + square[i][j + 1:])


def spoilt_squares(square):
    size = len(square)
    found = [list(square), square[:-1], square + square[-1:], square + ((),), (square,), {0: square}, str(square)]
    found += [tuple(number for row in square for number in row), square + (None,), dict(enumerate(square))]
    for k, row in enumerate(square):
        found += [square[:k] + square[k + 1:], with_row(square, k, list(row)), with_row(square, k, row[:-1])]
        found += [with_row(square, k, row + (0,)), with_row(square, k, row + (size * size + 1,)), with_row(square, k, None)]
        found += [with_row(square, k, square[j]) for j in range(size) if j != k]
        found += [square[:k] + (row,) + square[k:], with_row(square, k, str(row)), with_row(square, k, dict(enumerate(row)))]
    for i, j in itertools.product(range(size), repeat=2):
        for odd in (0, -1, size * size + 1, -square[i][j], 10 ** 99, True, False, None, "1", str(square[i][j]), (1,), [1]):
            found.append(with_cell(square, i, j, odd))
        # With this number exchanged for another one, a row or a column has another sum.
        for m, n in itertools.product(range(size), repeat=2):
            if (m, n) != (i, j):
                found.append(with_cell(square, i, j, square[m][n]))
                found.append(with_cell(with_cell(square, i, j, square[m][n]), m, n, square[i][j]))
    return found


def some_squares():
    found = [square_for(size) for size in SIZES] + [THREE]
    return found + [tuple(zip(*square)) for square in found]


class SquareGoodTest(unittest.TestCase):
    def test_written_out(self):
        self.assertIs(square_good(((1,),)), True)
        self.assertIs(square_good(THREE), True)
        self.assertIs(square_good(((16, 3, 2, 13), (5, 10, 11, 8), (9, 6, 7, 12), (4, 15, 14, 1))), True)
        self.assertIs(square_good(((1, 2), (3, 4))), False)
        self.assertIs(square_good(()), False)
        self.assertIs(square_good(((2,),)), False)
        self.assertIs(square_good(((0,),)), False)
        self.assertIs(square_good(((True,),)), False)
        self.assertIs(square_good(((),)), False)
        self.assertIs(square_good(((2, 7), (6, 9, 5, 1), (4, 3, 8))), False)
        self.assertIs(square_good(((2, 7, 6, 9), (5, 1), (4, 3, 8))), False)

    def test_columns_and_rows_both_count(self):
        rows_alone = ((1, 5, 9), (2, 6, 7), (3, 4, 8))
        self.assertEqual([sum(row) for row in rows_alone], [15, 15, 15])
        self.assertIs(square_good(rows_alone), False)
        self.assertIs(square_good(tuple(zip(*rows_alone))), False)

    def test_each_way_of_two_and_of_three(self):
        for way in itertools.permutations(range(1, 5)):
            self.assertIs(square_good((way[:2], way[2:])), False)
        found = 0
        for way in itertools.permutations(range(1, 10)):
            thing = (way[:3], way[3:6], way[6:])
            if sum(way[:3]) == 15 or way[0] == 1:
                self.assertIs(square_good(thing), own_square(thing))
                found += own_square(thing)
        self.assertEqual(found, 72)

    def test_alike_sums_of_other_numbers(self):
        self.assertIs(square_good(((2, 2, 2),) * 3), False)
        self.assertIs(square_good(tuple(tuple(number + 1 for number in row) for row in THREE)), False)
        self.assertIs(square_good(tuple(tuple(number - 1 for number in row) for row in THREE)), False)
        self.assertIs(square_good(tuple(tuple(2 * number for number in row) for row in THREE)), False)

    def test_sizes_above_seven(self):
        eight = tuple(tuple(8 * row + column + 1 if (row % 4 in (0, 3)) == (column % 4 in (0, 3)) else
                            64 - 8 * row - column for column in range(8)) for row in range(8))
        self.assertTrue(own_square(eight))
        self.assertIs(square_good(eight), False)
        nine = tuple(tuple((row + column) % 9 * 9 + (row + 2 * column) % 9 + 1 for column in range(9)) for row in range(9))
        self.assertTrue(own_square(nine))
        self.assertIs(square_good(nine), False)

    def test_what_comes_near(self):
        for square in some_squares():
            self.assertIs(square_good(square), True)
            for thing in spoilt_squares(square):
                self.assertIs(square_good(thing), own_square(thing), repr(thing))

    def test_odd_things(self):
        for thing in odd_things():
            self.assertIs(square_good(thing), False)


class SquareForTest(unittest.TestCase):
    def test_each_size(self):
        for size in SIZES:
            told = square_for(size)
            self.assertEqual(len(told), size)
            self.assertTrue(own_square(told), size)

    def test_what_is_refused(self):
        for thing in [2, 0, -1, -3, 8, 9, 49, "3", (3,), [3], 3 * 10 ** 98, True, False, None] + odd_things():
            with self.assertRaises(NoSquare) as taken:
                square_for(thing)
            self.assertIs(type(taken.exception), NoSquare, repr(thing))


class MadeOfSquaresTest(unittest.TestCase):
    def test_written_out(self):
        self.assertEqual(opposite_square(THREE), ((8, 3, 4), (1, 5, 9), (6, 7, 2)))
        self.assertEqual(turned_square(THREE), ((2, 9, 4), (7, 5, 3), (6, 1, 8)))
        self.assertEqual(moved_square(THREE, (2, 0, 1), (0, 1, 2)), ((4, 3, 8), (2, 7, 6), (9, 5, 1)))
        self.assertEqual(moved_square(THREE, (0, 1, 2), (2, 0, 1)), ((6, 2, 7), (1, 9, 5), (8, 4, 3)))
        self.assertEqual(moved_square(THREE, (2, 0, 1), (1, 0, 2)), ((3, 4, 8), (7, 2, 6), (5, 9, 1)))
        self.assertEqual(opposite_square(((1,),)), ((1,),))
        self.assertEqual(moved_square(((1,),), (0,), (0,)), ((1,),))

    def test_opposite_and_turned_twice(self):
        for square in some_squares():
            size = len(square)
            told = opposite_square(square)
            self.assertTrue(own_square(told))
            self.assertEqual([told[i][j] + square[i][j] for i in range(size) for j in range(size)],
                             [size * size + 1] * size ** 2)
            self.assertEqual(opposite_square(told), square)
            told = turned_square(square)
            self.assertTrue(own_square(told))
            self.assertEqual(told, tuple(zip(*square)))
            self.assertEqual(turned_square(told), square)

    def test_moved_and_moved_back(self):
        for square in some_squares():
            size = len(square)
            orders = list(itertools.permutations(range(size)))
            for rows, columns in zip(orders[::max(1, size * size - 7)], orders[::-max(1, 2 * size - 5)]):
                told = moved_square(square, rows, columns)
                self.assertTrue(own_square(told))
                for k in range(size):
                    self.assertEqual(told[k], tuple(square[rows[k]][columns[j]] for j in range(size)))
                back = moved_square(told, tuple(map(rows.index, range(size))), tuple(map(columns.index, range(size))))
                self.assertEqual(back, square)


if __name__ == "__main__":
    unittest.main()
