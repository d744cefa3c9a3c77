"""What several tests hand in: odd things, small webs, and the greatest webs."""

import itertools


def deep(wrap, times):
    thing = 0
    for level in range(times):
        thing = wrap(thing)
    return thing


def deep_things():
    return [
        deep(lambda thing: [thing], 100),
        deep(lambda thing: (thing,), 100),
        deep(lambda thing: {0: thing}, 100),
        deep(lambda thing: (thing, 1), 100),
        deep(lambda thing: (0, thing), 100),
        deep(lambda thing: [(0, None), {"a": thing}], 50),
    ]


def unnumbered_things():
    """Whatever may be handed in that is no whole number, made anew each time."""
    plain = [None, True, False, "", "0", "1", "web", "ring", [], (), {}, [0], (0,), [1], (1,), {0: 1}, {1: [2]}]
    return plain + deep_things()


def odd_things():
    """Whatever may be handed in that is neither a web, a kind nor a number from 0 to 40."""
    return unnumbered_things() + [-1, 41, 10 ** 99, -(10 ** 99)]


def all_pairs(many):
    return list(itertools.combinations(range(many), 2))


def webs_of(many):
    """Each web of so many places."""
    pairs = all_pairs(many)
    found = []
    for size in range(len(pairs) + 1):
        found.extend((many, ties) for ties in itertools.combinations(pairs, size))
    return found


def small_webs():
    return [web for many in (1, 2, 3, 4) for web in webs_of(many)]


def row_web(many):
    return (many, tuple((place, place + 1) for place in range(many - 1)))


def ring_web(many):
    return (many, tuple(sorted([(place, place + 1) for place in range(many - 1)] + [(0, many - 1)])))


def greatest_web():
    """40 places and 60 ties: two hubs of 38 and 22 ties."""
    return (40, tuple([(0, other) for other in range(2, 40)] + [(1, other) for other in range(2, 24)]))
