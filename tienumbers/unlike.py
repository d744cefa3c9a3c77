"""Unlike numberings: ties numbered so that the sums at the places are all unlike; and what bars them."""

from tienumbers.bars import bar_formed, first_bar
from tienumbers.errors import NoKind, NoNumber, TooGreat
from tienumbers.evens import place_sums, ties_numbered
from tienumbers.kinds import web_for
from tienumbers.webs import hubs_of, is_place, tie_counts
from tienumbers.wholes import is_whole

UNLIKE_FORMS = (("lone", 1), ("bare", 2))
MOST_ORDERED_TIES = 6


def unlike_good(web, thing):
    return ties_numbered(web, thing) and sums_unlike(web, thing)


def sums_unlike(web, numbering):
    return len(set(place_sums(web, numbering))) == web[0]


def unlike_by(web, thing):
    hubs = hubs_of(web)
    if not hubs or web[0] < 3:
        raise NoKind()
    if not numbers_unlike(thing, len(web[1])):
        raise NoNumber()
    return hub_numbering(web, hubs[0], sorted(thing))


def numbers_unlike(thing, many):
    if not isinstance(thing, (list, tuple)) or len(thing) != many:
        return False
    return all([is_whole(number) and number >= 1 for number in thing]) and len(set(thing)) == many


def hub_numbering(web, hub, numbers):
    # The hub's ties have the greatest numbers, rising with the sums that the other places have without them. So no
    # two of these places come out alike, and the hub, with no fewer ties and all the greatest numbers, is above them.
    told = {}
    for tie in web[1]:
        if hub not in tie:
            told[tie] = numbers[len(told)]
    sums = place_sums(web, [told.get(tie, 0) for tie in web[1]])
    others = [place for place in range(web[0]) if place != hub]
    for place in sorted(others, key=lambda other: sums[other]):
        told[(min(hub, place), max(hub, place))] = numbers[len(told)]
    return tuple([told[tie] for tie in web[1]])


def unlike_for(kind):
    web = web_for(kind)
    q = len(web[1])
    if kind[0] == "ring":
        return ring_unlike(web)
    if kind[0] == "spine" and sum(kind[1]) == 0 and q >= 2:
        return row_unlike(q)
    return unlike_by(web, list(range(1, q + 1)))


def ring_unlike(web):
    # Next to one another stand 1 and 2, numbers two apart, and the two greatest: two odd sums, all even ones between.
    n = web[0]
    around = list(range(1, n + 1, 2)) + [number for number in range(n, 0, -1) if number % 2 == 0]
    return tuple([around[n - 1] if tie == (0, n - 1) else around[tie[0]] for tie in web[1]])


def row_unlike(q):
    # Numbers in order have odd sums, but for the last place; where this would have an odd one, the last two change.
    if q % 2 == 0:
        return tuple(range(1, q + 1))
    return tuple(list(range(1, q - 1)) + [q, q - 1])


def unlike_bar_holds(web, thing):
    if not bar_formed(UNLIKE_FORMS, thing):
        return False
    if thing[0] == "lone":
        return lone_tie(web, thing[1])
    return bare_pair(web, thing[1], thing[2])


def lone_tie(web, number):
    if not 0 <= number < len(web[1]):
        return False
    counts = tie_counts(web)
    return all([counts[end] == 1 for end in web[1][number]])


def bare_pair(web, a, b):
    if not is_place(web[0], a) or not is_place(web[0], b):
        return False
    counts = tie_counts(web)
    return a < b and counts[a] == 0 and counts[b] == 0


def unlike_bar(web):
    return first_bar(web, unlike_bars_told(web), unlike_bar_holds)


def unlike_bars_told(web):
    bars = [("lone", number) for number in range(len(web[1]))]
    for a in range(web[0]):
        bars.extend([("bare", a, b) for b in range(a + 1, web[0])])
    return bars


def unlike_count(web):
    return len(unlike_orders(web))


def unlike_first(web):
    orders = unlike_orders(web)
    return orders[0] if orders else None


def unlike_orders(web):
    q = len(web[1])
    if q > MOST_ORDERED_TIES:
        raise TooGreat(q, MOST_ORDERED_TIES)
    return [order for order in all_orders(q) if sums_unlike(web, order)]


def all_orders(q):
    orders = [()]
    for turn in range(q):
        longer = []
        for order in orders:
            longer.extend([order + (number,) for number in range(1, q + 1) if number not in order])
        orders = longer
    return orders
