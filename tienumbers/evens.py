"""Even numberings: ties numbered so that the sums at all places are alike; and what bars them."""

from tienumbers.bars import bar_formed, first_bar
from tienumbers.errors import NoKind
from tienumbers.kinds import web_for
from tienumbers.squares import numbers_in, square_for
from tienumbers.webs import is_place, sides_by_piece, tie_counts, tied_places
from tienumbers.wholes import each_once

EVEN_FORMS = (("lone", 0), ("count", 0), ("end", 1), ("pair", 2), ("sides", 1), ("poor", 1), ("rich", 1))


def place_sums(web, numbering):
    sums = [0 for place in range(web[0])]
    for number, tie in zip(numbering, web[1]):
        sums[tie[0]] += number
        sums[tie[1]] += number
    return sums


def ties_numbered(web, thing):
    return isinstance(thing, tuple) and each_once(thing, len(web[1]))


def even_good(web, thing):
    return ties_numbered(web, thing) and len(set(place_sums(web, thing))) == 1


def square_of(numbering):
    size = 1
    while size * size < len(numbering):
        size += 1
    return tuple([numbering[row * size:(row + 1) * size] for row in range(size)])


def numbering_of(square):
    return tuple(numbers_in(square))


def even_bar_holds(web, thing):
    if not web[1] or not bar_formed(EVEN_FORMS, thing):
        return False
    if thing[0] == "lone":
        return 0 in tie_counts(web)
    if thing[0] == "count":
        return all_sums(web) % web[0] != 0
    if not all([is_place(web[0], place) for place in thing[1:]]):
        return False
    if thing[0] == "pair":
        return pair_bars(web, thing[1], thing[2])
    return place_bars(web, thing[0], thing[1])


def all_sums(web):
    # Each number counts at both ends of its tie.
    return len(web[1]) * (len(web[1]) + 1)


def pair_bars(web, a, b):
    counts = tie_counts(web)
    return (a, b) in web[1] and counts[a] == 2 and counts[b] == 2


def place_bars(web, word, place):
    if word == "end":
        return end_bars(web, place)
    if word == "sides":
        return sides_bar(web, place)
    q = len(web[1])
    count = tie_counts(web)[place]
    if word == "poor":
        return sum(range(q - count + 1, q + 1)) * web[0] < all_sums(web)
    return sum(range(1, count + 1)) * web[0] > all_sums(web)


def end_bars(web, place):
    tied = tied_places(web)
    return len(tied[place]) == 1 and len(tied[tied[place][0]]) >= 2


def sides_bar(web, place):
    for sides in sides_by_piece(web):
        if min(sides) == place:
            return sides_part(web, sides) and 2 * sum(sides.values()) != len(sides)
    return False


def sides_part(web, sides):
    return all([sides[a] != sides[b] for a, b in web[1] if a in sides])


def even_bar(web):
    return first_bar(web, even_bars_told(web), even_bar_holds)


def even_bars_told(web):
    bars = [("lone",), ("count",)] + [("end", place) for place in range(web[0])]
    bars.extend([("pair", a, b) for a, b in web[1]])
    for word in ("sides", "poor", "rich"):
        bars.extend([(word, place) for place in range(web[0])])
    return bars


def even_for(kind):
    web = web_for(kind)
    if kind[0] not in ("spine", "ring", "sides") or not web[1]:
        raise NoKind()
    if len(web[1]) == 1:
        return ("numbering", (1,))
    if kind[0] == "sides" and kind[1] == kind[2] and kind[1] != 2:
        return ("numbering", numbering_of(square_for(kind[1])))
    return ("bar", even_bar(web))
