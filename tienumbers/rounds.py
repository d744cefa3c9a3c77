"""Round numberings: places numbered so that the ties' sums, by rest, are all unlike; and what bars them."""

from tienumbers.bars import bar_formed, first_bar, share_bars
from tienumbers.errors import NoKind, NoPlace, NoShare
from tienumbers.kinds import web_for
from tienumbers.making import parted_for
from tienumbers.steps import places_numbered, upper_turned
from tienumbers.webs import tie_counts, tree_like
from tienumbers.wholes import whole_within

ROUND_FORMS = (("places", 0), ("share", 1), ("all", 0))


def round_sums(web, numbering):
    if not web[1]:
        raise NoPlace()
    return [(numbering[a] + numbering[b]) % len(web[1]) for a, b in web[1]]


def round_good(web, thing):
    q = len(web[1])
    if q == 0 or not places_numbered(web, thing):
        return False
    if not all([whole_within(number, 0, q - 1) for number in thing]):
        return False
    # A tree has one place more than there are numbers.
    unlike = web[0] - 1 if tree_like(web) else web[0]
    return len(set(thing)) == unlike and len(set(round_sums(web, thing))) == q


def turned_round(web, numbering, more):
    return tuple([(number + more) % len(web[1]) for number in numbering])


def times_round(web, numbering, often):
    q = len(web[1])
    share = greatest_share(q, abs(often))
    if share > 1:
        raise NoShare(share)
    return tuple([number * often % q for number in numbering])


def greatest_share(one, other):
    while other != 0:
        rest = one % other
        one = other
        other = rest
    return one


def round_bar_holds(web, thing):
    q = len(web[1])
    if q == 0 or not bar_formed(ROUND_FORMS, thing):
        return False
    if thing[0] == "places":
        return web[0] > q and not tree_like(web)
    if thing[0] == "share":
        return share_bars_rounds(web, thing[1])
    return web[0] == q and q % 2 == 0 and all([count == 2 for count in tie_counts(web)])


def share_bars_rounds(web, share):
    q = len(web[1])
    if share < 2 or q % 2 != 0 or q % share != 0 or q // 2 % share == 0:
        return False
    return all([count % share == 0 for count in tie_counts(web)])


def round_bar(web):
    return first_bar(web, [("places",)] + share_bars(len(web[1])) + [("all",)], round_bar_holds)


def round_for(kind):
    web = web_for(kind)
    if kind[0] == "ring":
        return ring_round(web)
    if kind[0] != "spine" or not web[1]:
        raise NoKind()
    return ("numbering", round_from(web, parted_for(kind)))


def ring_round(web):
    if web[0] % 2 == 0:
        return ("bar", round_bar(web))
    # Places in a row have sums two apart, and going on by two round an odd number meets each number once.
    return ("numbering", tuple(range(web[0])))


def round_from(web, numbering):
    return tuple([number % len(web[1]) for number in upper_turned(web, numbering)])
