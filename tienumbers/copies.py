"""Full webs cut into copies of a lesser web, by its steps numberings."""

from tienumbers.errors import NoPlace, TooGreat
from tienumbers.steps import parting_number, steps_by
from tienumbers.webs import is_place
from tienumbers.wholes import unlike_within

MOST_CUT_TIES = 30


def cut_good(web, size, thing):
    if not isinstance(thing, list):
        return False
    told = {}
    for copied in thing:
        if not copy_good(web, size, copied):
            return False
        for tie in copied_ties(web, copied):
            if tie in told:
                return False
            told[tie] = True
    return len(told) == size * (size - 1) // 2


def copy_good(web, size, thing):
    return isinstance(thing, tuple) and len(thing) == web[0] and unlike_within(thing, 0, size - 1)


def copied_ties(web, seats):
    return [(min(seats[a], seats[b]), max(seats[a], seats[b])) for a, b in web[1]]


def check_cut_ties(many):
    if many > MOST_CUT_TIES:
        raise TooGreat(many, MOST_CUT_TIES)


def cut_by(web, numbering):
    q = len(web[1])
    check_cut_ties(q)
    return turned_copies(numbering, 2 * q + 1)


def turned_copies(numbers, size):
    return [tuple([(number + t) % size for number in numbers]) for t in range(size)]


def found_in(web, numbering, one, other):
    q = len(web[1])
    check_cut_ties(q)
    size = 2 * q + 1
    if not is_place(size, one) or not is_place(size, other) or one == other:
        raise NoPlace()
    # Of both ways round from the one to the other, just one is short enough to be a step.
    if (other - one) % size <= q:
        return copy_at(web, numbering, one, (other - one) % size)
    return copy_at(web, numbering, other, (one - other) % size)


def copy_at(web, numbering, lesser, step):
    tie = steps_by(web, numbering).index(step)
    number = min([numbering[end] for end in web[1][tie]])
    return ((lesser - number) % (2 * len(web[1]) + 1), tie)


def folds_by(web, numbering, folds):
    q = len(web[1])
    check_cut_ties(q * folds)
    parting = parting_number(web, numbering)
    size = 2 * q * folds + 1
    copies = []
    for fold in range(folds):
        folded = [number + fold * q if number > parting else number for number in numbering]
        copies.extend(turned_copies(folded, size))
    return copies
