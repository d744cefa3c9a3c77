"""Steps numberings made for whole kinds of webs, and for webs that are grown."""

from tienumbers.errors import NoKind, NoWeb
from tienumbers.kinds import star_ties, web_for
from tienumbers.steps import step_bar
from tienumbers.webs import MOST_PLACES, MOST_TIES, web_of


def steps_for(kind):
    web = web_for(kind)
    if kind[0] == "ring":
        return ring_answer(web)
    return ("numbering", parted_made(kind))


def parted_for(kind):
    web = web_for(kind)
    if not web[1]:
        raise NoKind()
    return parted_made(kind)


def parted_made(kind):
    if kind[0] == "spine":
        return spine_steps(kind[1])
    if kind[0] == "sides":
        return sides_steps(kind[1], kind[2])
    raise NoKind()


def spine_steps(legs):
    # Each further tie goes from a place that stands to the next number from the other end, so steps fall by one.
    low = 0
    high = len(legs) + sum(legs) - 1
    row = []
    further = []
    for place, leg in enumerate(legs):
        if place % 2 == 0:
            row.append(low)
            further.extend([high - k for k in range(leg)])
            low += 1
            high -= leg
        else:
            row.append(high)
            further.extend([low + k for k in range(leg)])
            low += leg
            high -= 1
    return tuple(row + further)


def sides_steps(m, n):
    return tuple(list(range(m)) + [m * (k + 1) for k in range(n)])


def ring_answer(web):
    if web[0] % 4 == 0 or web[0] % 4 == 3:
        return ("numbering", ring_steps(web[0]))
    return ("bar", step_bar(web))


def ring_steps(n):
    # Steps fall by one round the ring; the tie back to place 0 has a step among them, so half way one is left out.
    numbers = []
    for place in range(n):
        skipped = 1 if place >= n // 2 else 0
        if place % 2 == 0:
            numbers.append(place // 2 + (skipped if n % 4 == 3 else 0))
        else:
            numbers.append(n - place // 2 - (skipped if n % 4 == 0 else 0))
    return tuple(numbers)


def grown_steps(web, numbering, count):
    grown = grown_at(web, numbering.index(0), count)
    greatest = len(web[1])
    return (grown, numbering + tuple([greatest + 1 + k for k in range(count)]))


def grown_above(web, numbering, count):
    grown = grown_at(web, numbering.index(len(web[1])), count)
    numbers = [number + count for number in numbering] + [count - 1 - k for k in range(count)]
    return (grown, tuple(numbers))


def grown_at(web, place, count):
    many = web[0]
    room = min(MOST_PLACES - many, MOST_TIES - len(web[1]))
    if count > room:
        raise NoWeb(room)
    return web_of(many + count, list(web[1]) + star_ties(place, many, many + count - 1))
