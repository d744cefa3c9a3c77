"""What several tests hand in: odd things, small webs, and the greatest webs."""

import functools
import itertools


def deep(wrap, times):
    thing = 0
    for level in range(times):
        thing = wrap(thing)
    return thing


def deep_things():
    return [
        deep(lambda thing: [thing], 100),
        deep(lambda thing: (thing,), 100),
        deep(lambda thing: {0: thing}, 100),
        deep(lambda thing: (thing, 1), 100),
        deep(lambda thing: (0, thing), 100),
        deep(lambda thing: [(0, None), {"a": thing}], 50),
    ]


def unnumbered_things():
    """Whatever may be handed in that is no whole number, made anew each time."""
    plain = [None, True, False, "", "0", "1", "web", "ring", [], (), {}, [0], (0,), [1], (1,), {0: 1}, {1: [2]}]
    return plain + deep_things()


def odd_things():
    """Whatever may be handed in that is neither a web, a kind nor a number from 0 to 40."""
    return unnumbered_things() + [-1, 41, 10 ** 99, -(10 ** 99)]


def all_pairs(many):
    return list(itertools.combinations(range(many), 2))


def webs_of(many):
    """Each web of so many places."""
    pairs = all_pairs(many)
    found = []
    for size in range(len(pairs) + 1):
        found.extend((many, ties) for ties in itertools.combinations(pairs, size))
    return found


def small_webs():
    return [web for many in (1, 2, 3, 4) for web in webs_of(many)]


def row_web(many):
    return (many, tuple((place, place + 1) for place in range(many - 1)))


def ring_web(many):
    return (many, tuple(sorted([(place, place + 1) for place in range(many - 1)] + [(0, many - 1)])))


def greatest_web():
    """40 places and 60 ties: two hubs of 38 and 22 ties."""
    return (40, tuple([(0, other) for other in range(2, 40)] + [(1, other) for other in range(2, 24)]))


def star_web(many):
    return (many, tuple((0, leaf) for leaf in range(1, many)))


def sides_web(m, n):
    return (m + n, tuple((a, b) for a in range(m) for b in range(m, m + n)))


def zigzag(many):
    """A parted numbering of a row: 0, the greatest, 1, the next greatest, and so on."""
    return tuple(place // 2 if place % 2 == 0 else many - 1 - place // 2 for place in range(many))


def sides_numbers(m, n):
    """A parted numbering of sides."""
    return tuple(range(m)) + tuple(m * (k + 1) for k in range(n))


def own_steps(web, numbers):
    return [max(numbers[a], numbers[b]) - min(numbers[a], numbers[b]) for a, b in web[1]]


def own_good(web, thing):
    """Whether it is a steps numbering, asked in another way than the program's."""
    q = len(web[1])
    if type(thing) is not tuple or len(thing) != web[0] or any(type(number) is not int for number in thing):
        return False
    if any(number not in range(q + 1) or thing.count(number) > 1 for number in thing):
        return False
    steps = own_steps(web, thing)
    return all(steps.count(step) == 1 for step in range(1, q + 1))


@functools.lru_cache(maxsize=None)
def all_steps(web):
    """Each steps numbering of a small web, a tuple in order, by going through all ways."""
    due = list(range(1, len(web[1]) + 1))
    ways = itertools.permutations(range(len(due) + 1), web[0])
    return tuple(numbers for numbers in ways if sorted(own_steps(web, numbers)) == due)


def all_beginnings(web):
    """Each beginning of a small web, of no place, of some and of all."""
    found = []
    for many in range(web[0] + 1):
        found.extend(itertools.permutations(range(len(web[1]) + 1), many))
    return found


def no_beginnings(web):
    """Whatever comes near a beginning of a web and is none."""
    q = len(web[1])
    found = [[], [0], {}, {0: 0}, None, "", "0", 0, True, (True,), (False,), (None,), ("0",), ((0,),), ([0],), (-1,)]
    found.extend([(q + 1,), (10 ** 99,), (-(10 ** 99),), (0, 0), (q, q), (q, 0, q), (0, False), (0, None), (0, True)])
    found.extend([(0, "1"), (0, q + 1), (0, -1), (0,) * (web[0] + 1), tuple(range(web[0] + 1)), list(range(web[0]))])
    return found + [thing for thing in odd_things() if thing not in ((), (0,), (1,))]


def own_parting(web, numbers):
    """Each number that parts the ends of all ties, where there is a tie."""
    if not web[1]:
        return []
    return [t for t in range(-1, 70) if all((numbers[a] <= t) != (numbers[b] <= t) for a, b in web[1])]


def changed(numbers, place, number):
    return numbers[:place] + (number,) + numbers[place + 1:]


def spoilt_numberings(web, numbers):
    """Whatever comes near a steps numbering and is none."""
    q = len(web[1])
    found = [list(numbers), numbers + (0,), numbers + (q + 1,), numbers[:-1], (numbers,), {0: numbers}, str(numbers)]
    found.extend([dict(enumerate(numbers)), numbers + (None,), tuple(str(number) for number in numbers)])
    for place, number in enumerate(numbers):
        for other in (q + 1, q + 2, -1, -number, 10 ** 99, -(10 ** 99), True, False, None, "0", str(number), (number,)):
            found.append(changed(numbers, place, other))
        for later in range(place):
            found.append(changed(numbers, place, numbers[later]))
            found.append(changed(changed(numbers, place, numbers[later]), later, number))
    return [thing for thing in found + odd_things() if not own_good(web, thing)]
