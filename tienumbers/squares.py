"""Squares: the numbers from 1 on in rows and columns that all come to one sum."""

from tienumbers.errors import NoSquare
from tienumbers.wholes import each_once, whole_within

MOST_SIZE = 7

# The even sizes have no way of making that is as short as writing them out.
EVEN_SQUARES = {
    4: ((16, 3, 2, 13), (5, 10, 11, 8), (9, 6, 7, 12), (4, 15, 14, 1)),
    6: (
        (35, 1, 6, 26, 19, 24), (3, 32, 7, 21, 23, 25), (31, 9, 2, 22, 27, 20),
        (8, 28, 33, 17, 10, 15), (30, 5, 34, 12, 14, 16), (4, 36, 29, 13, 18, 11),
    ),
}


def square_good(thing):
    if not isinstance(thing, tuple) or not 1 <= len(thing) <= MOST_SIZE:
        return False
    size = len(thing)
    if not all([isinstance(row, tuple) and len(row) == size for row in thing]):
        return False
    return each_once(numbers_in(thing), size * size) and sums_alike(thing)


def numbers_in(square):
    numbers = []
    for row in square:
        numbers.extend(row)
    return numbers


def sums_alike(square):
    return len(set([sum(line) for line in square + turned_square(square)])) == 1


def square_for(size):
    if not whole_within(size, 1, MOST_SIZE) or size == 2:
        raise NoSquare()
    if size in EVEN_SQUARES:
        return EVEN_SQUARES[size]
    return tuple([odd_row(size, row) for row in range(size)])


def odd_row(size, row):
    # Both rests go through all numbers along each row and column, and no two cells have both of them alike.
    return tuple([(row + column) % size * size + (row + 2 * column) % size + 1 for column in range(size)])


def opposite_square(square):
    whole = len(square) * len(square) + 1
    return tuple([tuple([whole - number for number in row]) for row in square])


def turned_square(square):
    return tuple([tuple([row[column] for row in square]) for column in range(len(square))])


def moved_square(square, rows, columns):
    return tuple([tuple([square[row][column] for column in columns]) for row in rows])
