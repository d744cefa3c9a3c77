"""Kinds: a word and numbers that stand for a web."""

from tienumbers.errors import NoKind
from tienumbers.webs import MOST_PLACES, MOST_TIES, web_of
from tienumbers.wholes import whole_within

LEAST_NUMBERS = {"ring": (3,), "sides": (1, 1), "full": (1,), "wheel": (3,), "fan": (1,)}


def kind_good(thing):
    # The places are counted first, so that no great number of ties is ever made.
    return form_good(thing) and places_in(thing) <= MOST_PLACES and len(ties_in(thing)) <= MOST_TIES


def web_for(kind):
    if not kind_good(kind):
        raise NoKind()
    return web_of(places_in(kind), ties_in(kind))


def form_good(thing):
    if not isinstance(thing, tuple) or len(thing) < 2:
        return False
    word = thing[0]
    if word == "spine":
        return len(thing) == 2 and legs_good(thing[1])
    if not isinstance(word, str) or word not in LEAST_NUMBERS:
        return False
    return numbers_good(LEAST_NUMBERS[word], thing[1:])


def legs_good(thing):
    if not isinstance(thing, tuple) or len(thing) == 0:
        return False
    return all([whole_within(leg, 0, MOST_PLACES) for leg in thing])


def numbers_good(leasts, things):
    if len(things) != len(leasts):
        return False
    return all([whole_within(thing, least, MOST_PLACES) for least, thing in zip(leasts, things)])


def places_in(kind):
    word = kind[0]
    if word == "spine":
        return len(kind[1]) + sum(kind[1])
    if word == "sides":
        return kind[1] + kind[2]
    if word == "wheel" or word == "fan":
        return kind[1] + 1
    return kind[1]


def ties_in(kind):
    word = kind[0]
    if word == "spine":
        return spine_ties(kind[1])
    if word == "ring":
        return ring_ties(kind[1])
    if word == "sides":
        return sides_ties(kind[1], kind[2])
    if word == "full":
        return full_ties(kind[1])
    if word == "wheel":
        return wheel_ties(kind[1])
    return fan_ties(kind[1])


def row_ties(first, last):
    return [(place, place + 1) for place in range(first, last)]


def star_ties(middle, first, last):
    return [(middle, place) for place in range(first, last + 1)]


def spine_ties(legs):
    ties = row_ties(0, len(legs) - 1)
    further = len(legs)
    for place, leg in enumerate(legs):
        ties.extend(star_ties(place, further, further + leg - 1))
        further += leg
    return ties


def ring_ties(n):
    return row_ties(0, n - 1) + [(0, n - 1)]


def sides_ties(m, n):
    ties = []
    for place in range(m):
        ties.extend(star_ties(place, m, m + n - 1))
    return ties


def full_ties(n):
    ties = []
    for place in range(n):
        ties.extend(star_ties(place, place + 1, n - 1))
    return ties


def fan_ties(n):
    return star_ties(0, 1, n) + row_ties(1, n)


def wheel_ties(n):
    return fan_ties(n) + [(1, n)]
