"""What several tests hand in: odd things, small webs, and the greatest webs."""

import functools
import itertools


def deep(wrap, times):
    thing = 0
    for level in range(times):
        thing = wrap(thing)
    return thing


def deep_things():
    return [
        deep(lambda thing: [thing], 100),
        deep(lambda thing: (thing,), 100),
        deep(lambda thing: {0: thing}, 100),
        deep(lambda thing: (thing, 1), 100),
        deep(lambda thing: (0, thing), 100),
        deep(lambda thing: [(0, None), {"a": thing}], 50),
    ]


def unnumbered_things():
    """Whatever may be handed in that is no whole number, made anew each time."""
    plain = [None, True, False, "", "0", "1", "web", "ring", [], (), {}, [0], (0,), [1], (1,), {0: 1}, {1: [2]}]
    return plain + deep_things()


def odd_things():
    """Whatever may be handed in that is neither a web, a kind nor a number from 0 to 40."""
    return unnumbered_things() + [-1, 41, 10 ** 99, -(10 ** 99)]


def all_pairs(many):
    return list(itertools.combinations(range(many), 2))


def webs_of(many):
    """Each web of so many places."""
    pairs = all_pairs(many)
    found = []
    for size in range(len(pairs) + 1):
        found.extend((many, ties) for ties in itertools.combinations(pairs, size))
    return found


def small_webs():
    return [web for many in (1, 2, 3, 4) for web in webs_of(many)]


def row_web(many):
    return (many, tuple((place, place + 1) for place in range(many - 1)))


def ring_web(many):
    return (many, tuple(sorted([(place, place + 1) for place in range(many - 1)] + [(0, many - 1)])))


def greatest_web():
    """40 places and 60 ties: two hubs of 38 and 22 ties."""
    return (40, tuple([(0, other) for other in range(2, 40)] + [(1, other) for other in range(2, 24)]))


def star_web(many):
    return (many, tuple((0, leaf) for leaf in range(1, many)))


def sides_web(m, n):
    return (m + n, tuple((a, b) for a in range(m) for b in range(m, m + n)))


def zigzag(many):
    """A parted numbering of a row: 0, the greatest, 1, the next greatest, and so on."""
    return tuple(place // 2 if place % 2 == 0 else many - 1 - place // 2 for place in range(many))


def sides_numbers(m, n):
    """A parted numbering of sides."""
    return tuple(range(m)) + tuple(m * (k + 1) for k in range(n))


def own_steps(web, numbers):
    return [max(numbers[a], numbers[b]) - min(numbers[a], numbers[b]) for a, b in web[1]]


def own_good(web, thing):
    """Whether it is a steps numbering, asked in another way than the program's."""
    q = len(web[1])
    if type(thing) is not tuple or len(thing) != web[0] or any(type(number) is not int for number in thing):
        return False
    if any(number not in range(q + 1) or thing.count(number) > 1 for number in thing):
        return False
    steps = own_steps(web, thing)
    return all(steps.count(step) == 1 for step in range(1, q + 1))


@functools.lru_cache(maxsize=None)
def all_steps(web):
    """Each steps numbering of a small web, a tuple in order, by going through all ways."""
    due = list(range(1, len(web[1]) + 1))
    ways = itertools.permutations(range(len(due) + 1), web[0])
    return tuple(numbers for numbers in ways if sorted(own_steps(web, numbers)) == due)


def all_beginnings(web):
    """Each beginning of a small web, of no place, of some and of all."""
    found = []
    for many in range(web[0] + 1):
        found.extend(itertools.permutations(range(len(web[1]) + 1), many))
    return found


def no_beginnings(web):
    """Whatever comes near a beginning of a web and is none."""
    q = len(web[1])
    found = [[], [0], {}, {0: 0}, None, "", "0", 0, True, (True,), (False,), (None,), ("0",), ((0,),), ([0],), (-1,)]
    found.extend([(q + 1,), (10 ** 99,), (-(10 ** 99),), (0, 0), (q, q), (q, 0, q), (0, False), (0, None), (0, True)])
    found.extend([(0, "1"), (0, q + 1), (0, -1), (0,) * (web[0] + 1), tuple(range(web[0] + 1)), list(range(web[0]))])
    return found + [thing for thing in odd_things() if thing not in ((), (0,), (1,))]


def own_parting(web, numbers):
    """Each number that parts the ends of all ties, where there is a tie."""
    if not web[1]:
        return []
    return [t for t in range(-1, 70) if all((numbers[a] <= t) != (numbers[b] <= t) for a, b in web[1])]


def changed(numbers, place, number):
    return numbers[:place] + (number,) + numbers[place + 1:]


def spoilt_numberings(web, numbers):
    """Whatever comes near a steps numbering and is none."""
    q = len(web[1])
    found = [list(numbers), numbers + (0,), numbers + (q + 1,), numbers[:-1], (numbers,), {0: numbers}, str(numbers)]
    found.extend([dict(enumerate(numbers)), numbers + (None,), tuple(str(number) for number in numbers)])
    for place, number in enumerate(numbers):
        for other in (q + 1, q + 2, -1, -number, 10 ** 99, -(10 ** 99), True, False, None, "0", str(number), (number,)):
            found.append(changed(numbers, place, other))
        for later in range(place):
            found.append(changed(numbers, place, numbers[later]))
            found.append(changed(changed(numbers, place, numbers[later]), later, number))
    return [thing for thing in found + odd_things() if not own_good(web, thing)]


def greatest_spines():
    """Spines of 39 and of 40 places, of many shapes."""
    legs = [(0,) * 40, (39,), (0, 38), (38, 0), (19, 19), (1,) * 20, (0, 37, 0), (9, 9, 9, 9), (0, 1) * 13 + (0,)]
    legs += [(3, 0, 0, 7, 1, 0, 12, 0, 0, 5), (0,) * 20 + (19,), (20,) + (0,) * 19, (12, 12, 13), (0, 0, 35, 1), (38,)]
    return [("spine", one) for one in legs]


def many_spines():
    """Spines of two places or more, small ones of each shape and great ones."""
    legs = [one for many in range(1, 5) for one in itertools.product(range(4), repeat=many) if one != (0,)]
    legs += [(0,) * many for many in range(5, 40)] + [(leg,) for leg in range(4, 38)]
    return [("spine", one) for one in legs] + greatest_spines()


def all_sides():
    return [("sides", m, n) for m in range(1, 40) for n in range(1, 40) if m + n <= 40 and m * n <= 60]


def all_rings():
    return [("ring", n) for n in range(3, 41)]


def full_kinds():
    return [("full", n) for n in range(1, 12)]


def fans_and_wheels():
    return [("fan", n) for n in range(1, 31)] + [("wheel", n) for n in range(3, 31)]


NO_KINDS = [
    ("spine", ()), ("spine", [0, 1]), ("spine", (-1,)), ("spine", (True,)), ("spine", (0,) * 41), ("spine", (40,)),
    ("spine", 3), ("spine",), ("spine", (1,), (1,)), ["spine", (1,)], ("spine", None), ("spine", ("1",)),
    ("ring", 2), ("ring", 41), ("ring", True), ("ring", "4"), ("ring", 4, 4), ("ring",), ["ring", 4], ("ring", None),
    ("sides", 0, 3), ("sides", 3, 0), ("sides", 1, 40), ("sides", 2, 31), ("sides", 8, 8), ("sides", 2),
    ("sides", 2, 2, 2), ("sides", True, 2), ["sides", 2, 2], ("full", 0), ("full", 12), ("full", None), ["full", 3],
    ("fan", 31), ("fan", 0), ("fan", True), ("wheel", 2), ("wheel", 31), ["wheel", 3], ("star", 4), ("row", 4),
    (4, "ring"), "ring", "ring 5", {"ring": 5}, ("ring", (5,)), ("sides", (3, 3)),
]


def pieced(webs):
    """One web of all these, one behind the other."""
    many = 0
    ties = []
    for web in webs:
        ties += [(a + many, b + many) for a, b in web[1]]
        many += web[0]
    return (many, tuple(ties))


def own_degrees(web):
    return [sum(place in tie for tie in web[1]) for place in range(web[0])]


def odd_bars():
    """Whatever comes near a bar by its form and is none of any web with less than 60 places."""
    found = [("places", 0), ("places", None), ["places"], "places", ("Places",), ("place",), (("places",),)]
    found += [("share",), ("share", 2, 2), ("share", None), ("share", "2"), ("share", (2,)), ("share", [2])]
    found += [["share", 2], ("share", True), ("share", False), ("share", 0), ("share", 1), ("share", -1), ("share", -2)]
    found += [("share", 10 ** 99), ("share", -(10 ** 99)), (2, "share"), ("all", 0), ["all"], "all", ("al",), ("All",)]
    found += [("ties", 0), ["ties"], "ties", ("tie",), ("even", 0), ("count", 0), ["count"], "count", ["lone"], "lone"]
    for word in ("end", "sides", "poor", "rich"):
        found += [(word,), [word, 0], (word, 0, 0), (word, None), (word, True), (word, False), (word, "0"), (word, (0,))]
        found += [(word, -1), (word, 60), (word, 10 ** 99), word]
    for word in ("pair", "bare"):
        found += [(word,), (word, 0), (word, 0, 1, 2), [word, 0, 1], (word, 0, 0), (word, False, True), (word, 0, True)]
        found += [(word, 0, None), (word, (0, 1)), (word, -1, 0), (word, 0, 60), (word, "0", "1"), word]
    return found + [(None,), (True,), (0,), (), None] + odd_things()


@functools.lru_cache(maxsize=None)
def unlike_webs(many):
    """The webs of so many places, one of each shape."""
    found = {}
    for web in webs_of(many):
        shapes = []
        for order in itertools.permutations(range(many)):
            shapes.append(tuple(sorted(tuple(sorted((order[a], order[b]))) for a, b in web[1])))
        found.setdefault(min(shapes), web)
    return list(found.values())
