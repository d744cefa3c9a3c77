"""Webs: places that are tied to one another, and what hangs on the ties alone."""

from tienumbers.errors import NoPlace, NoWeb
from tienumbers.wholes import whole_within

MOST_PLACES = 40
MOST_TIES = 60


def is_web(thing):
    if not isinstance(thing, tuple) or len(thing) != 2:
        return False
    many = thing[0]
    ties = thing[1]
    if not many_good(many) or not isinstance(ties, tuple):
        return False
    return len(ties) <= MOST_TIES and ties_rise(many, ties)


def many_good(thing):
    return whole_within(thing, 1, MOST_PLACES)


def ties_rise(many, things):
    ahead = None
    for thing in things:
        tie = tie_told(many, thing)
        if tie is None or tie != thing:
            return False
        if ahead is not None and tie <= ahead:
            return False
        ahead = tie
    return True


def tie_told(many, thing):
    if not isinstance(thing, tuple) or len(thing) != 2:
        return None
    if not all([is_place(many, end) for end in thing]) or thing[0] == thing[1]:
        return None
    return (min(thing), max(thing))


def is_place(many, thing):
    return whole_within(thing, 0, many - 1)


def web_of(many, things):
    if not many_good(many):
        raise NoWeb(-1)
    told = {}
    for number, thing in enumerate(things):
        tie = tie_told(many, thing)
        if tie is None or tie in told or number >= MOST_TIES:
            raise NoWeb(number)
        told[tie] = True
    return (many, tuple(sorted(told)))


def ties_at(web, place):
    if not is_place(web[0], place):
        raise NoPlace()
    return [number for number, tie in enumerate(web[1]) if place in tie]


def tie_counts(web):
    return tuple([len(others) for others in tied_places(web)])


def tied_places(web):
    tied = [[] for place in range(web[0])]
    for a, b in web[1]:
        tied[a].append(b)
        tied[b].append(a)
    return tied


def pieces_of(web):
    return [tuple(sorted(sides)) for sides in sides_by_piece(web)]


def sides_by_piece(web):
    tied = tied_places(web)
    seen = {}
    found = []
    for place in range(web[0]):
        if place not in seen:
            sides = sides_from(tied, place)
            seen.update(sides)
            found.append(sides)
    return found


def sides_from(tied, start):
    # With the start on side 0, no other side is left for a place than the one by which it is first reached.
    sides = {start: 0}
    waiting = [start]
    while waiting:
        place = waiting.pop()
        for other in tied[place]:
            if other not in sides:
                sides[other] = 1 - sides[place]
                waiting.append(other)
    return sides


def tree_like(web):
    return len(web[1]) == web[0] - 1 and len(pieces_of(web)) == 1


def hubs_of(web):
    return [place for place, count in enumerate(tie_counts(web)) if count == web[0] - 1]


def sides_of(web):
    sides = {}
    for part in sides_by_piece(web):
        sides.update(part)
    if any([sides[a] == sides[b] for a, b in web[1]]):
        return None
    return tuple([sides[place] for place in range(web[0])])
