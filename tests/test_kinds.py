"""Promise 1.5: kinds and their webs."""

import unittest

from tests.things import all_pairs, odd_things, ring_web, row_web, unnumbered_things
from tienumbers.errors import NoKind
from tienumbers.kinds import kind_good, web_for
from tienumbers.webs import is_web

SMALL = [
    (("spine", (0,)), (1, ())),
    (("spine", (1,)), (2, ((0, 1),))),
    (("spine", (3,)), (4, ((0, 1), (0, 2), (0, 3)))),
    (("spine", (0, 0)), (2, ((0, 1),))),
    (("spine", (0, 0, 0)), (3, ((0, 1), (1, 2)))),
    (("spine", (1, 0, 2)), (6, ((0, 1), (0, 3), (1, 2), (2, 4), (2, 5)))),
    (("spine", (0, 2, 1)), (6, ((0, 1), (1, 2), (1, 3), (1, 4), (2, 5)))),
    (("spine", (2, 1)), (5, ((0, 1), (0, 2), (0, 3), (1, 4)))),
    (("ring", 3), (3, ((0, 1), (0, 2), (1, 2)))),
    (("ring", 4), (4, ((0, 1), (0, 3), (1, 2), (2, 3)))),
    (("ring", 5), (5, ((0, 1), (0, 4), (1, 2), (2, 3), (3, 4)))),
    (("sides", 1, 1), (2, ((0, 1),))),
    (("sides", 1, 3), (4, ((0, 1), (0, 2), (0, 3)))),
    (("sides", 3, 1), (4, ((0, 3), (1, 3), (2, 3)))),
    (("sides", 2, 3), (5, ((0, 2), (0, 3), (0, 4), (1, 2), (1, 3), (1, 4)))),
    (("full", 1), (1, ())),
    (("full", 2), (2, ((0, 1),))),
    (("full", 4), (4, ((0, 1), (0, 2), (0, 3), (1, 2), (1, 3), (2, 3)))),
    (("wheel", 3), (4, ((0, 1), (0, 2), (0, 3), (1, 2), (1, 3), (2, 3)))),
    (("wheel", 4), (5, ((0, 1), (0, 2), (0, 3), (0, 4), (1, 2), (1, 4), (2, 3), (3, 4)))),
    (("fan", 1), (2, ((0, 1),))),
    (("fan", 2), (3, ((0, 1), (0, 2), (1, 2)))),
    (("fan", 4), (5, ((0, 1), (0, 2), (0, 3), (0, 4), (1, 2), (2, 3), (3, 4)))),
]

# Each with how many places and ties its web has.
GREATEST = [
    (("spine", (0,) * 40), 40, 39),
    (("spine", (39,)), 40, 39),
    (("spine", (19, 19)), 40, 39),
    (("spine", (1,) * 20), 40, 39),
    (("spine", (0, 37, 0)), 40, 39),
    (("ring", 40), 40, 40),
    (("sides", 1, 39), 40, 39),
    (("sides", 39, 1), 40, 39),
    (("sides", 2, 30), 32, 60),
    (("sides", 30, 2), 32, 60),
    (("sides", 3, 20), 23, 60),
    (("sides", 6, 10), 16, 60),
    (("sides", 7, 8), 15, 56),
    (("full", 11), 11, 55),
    (("wheel", 30), 31, 60),
    (("fan", 30), 31, 59),
]

BEYOND = [
    ("spine", (0,) * 41),
    ("spine", (40,)),
    ("spine", (41,)),
    ("spine", (19, 20)),
    ("spine", (1,) * 20 + (0,)),
    ("spine", (0,) * 5000),
    ("spine", (10 ** 99,)),
    ("spine", (0, 10 ** 99, 0)),
    ("ring", 41),
    ("ring", 10 ** 99),
    ("sides", 1, 40),
    ("sides", 40, 1),
    ("sides", 2, 31),
    ("sides", 31, 2),
    ("sides", 3, 21),
    ("sides", 6, 11),
    ("sides", 8, 8),
    ("sides", 1, 10 ** 99),
    ("sides", 10 ** 99, 10 ** 99),
    ("full", 12),
    ("full", 40),
    ("full", 10 ** 99),
    ("wheel", 31),
    ("wheel", 39),
    ("wheel", 10 ** 99),
    ("fan", 31),
    ("fan", 39),
    ("fan", 10 ** 99),
]

BELOW = [
    ("ring", 2), ("ring", 1), ("ring", 0), ("ring", -3), ("ring", -(10 ** 99)),
    ("sides", 0, 3), ("sides", 3, 0), ("sides", 0, 0), ("sides", -1, 3), ("sides", 3, -1), ("sides", -2, -3),
    ("full", 0), ("full", -1),
    ("wheel", 2), ("wheel", 1), ("wheel", 0), ("wheel", -3),
    ("fan", 0), ("fan", -1),
    ("spine", ()), ("spine", (-1,)), ("spine", (2, -1)), ("spine", (-1, 2)), ("spine", (5, -1, 5)),
]

MISSHAPEN = [
    ("spine",), ("ring",), ("sides",), ("full",), ("wheel",), ("fan",),
    ("spine", (0,), (0,)), ("spine", 0, 0), ("spine", 1), ("spine", [0]), ("spine", [0, 1]), ("spine", {0: 0}),
    ("spine", ((0,),)), ("spine", ([0],)), ("spine", (True,)), ("spine", (False,)), ("spine", (0, True)),
    ("spine", (False, 0)), ("spine", (None,)), ("spine", ("0",)), ("spine", "0"),
    ("ring", 3, 3), ("ring", (3,)), ("ring", [3]), ("ring", "3"), ["ring", 3], {"ring": 3}, "ring",
    ("sides", 2), ("sides", 2, 3, 4), ("sides", (2, 3)), ("sides", True, 3), ("sides", 3, True), ["sides", 2, 3],
    ("sides", None, 3), ("sides", 3, None),
    ("full", 3, 3), ("full", True), ("full", False), ["full", 3],
    ("wheel", 3, 3), ("wheel", True), ["wheel", 3],
    ("fan", 3, 3), ("fan", True), ("fan", False), ["fan", 3],
    ("Ring", 3), ("ring ", 3), ("RING", 3), ("", 3), ("row", 3), ("web", 3), ("tree", (0,)), ("star", 3),
    (3, "ring"), (3, 3), (None, 3), (True, 3), (("ring",), 3), (["ring"], 3), ({"ring": 3}, 3), (("ring", 3),),
    ["spine", (0,)], ("spine", (0,), None), ("ring", 3, None), ("sides", 2, 3, None),
]

WORDS = ("spine", "ring", "sides", "full", "wheel", "fan")


def no_kinds():
    found = BEYOND + BELOW + MISSHAPEN + odd_things()
    for thing in unnumbered_things():
        found.extend((word, thing) for word in WORDS[1:])
        found.extend([("sides", thing, 1), ("sides", 1, thing), ("spine", (0, thing)), (thing, 3, 3)])
        if thing not in ((0,), (1,)):
            found.append(("spine", thing))
        if thing != "ring":
            found.append((thing, 3))
    return found


class KindsTest(unittest.TestCase):
    def test_small_kinds(self):
        for kind, web in SMALL:
            with self.subTest(kind):
                self.assertIs(kind_good(kind), True)
                self.assertEqual(web_for(kind), web)

    def test_greatest_kinds(self):
        for kind, places, ties in GREATEST:
            with self.subTest(kind):
                self.assertIs(kind_good(kind), True)
                web = web_for(kind)
                self.assertIs(is_web(web), True)
                self.assertEqual((web[0], len(web[1])), (places, ties))

    def test_greatest_webs_tie_by_tie(self):
        self.assertEqual(web_for(("spine", (0,) * 40)), row_web(40))
        self.assertEqual(web_for(("spine", (39,))), (40, tuple((0, leg) for leg in range(1, 40))))
        combs = [(place, place + 1) for place in range(19)] + [(place, place + 20) for place in range(20)]
        self.assertEqual(web_for(("spine", (1,) * 20)), (40, tuple(sorted(combs))))
        self.assertEqual(web_for(("ring", 40)), ring_web(40))
        self.assertEqual(web_for(("full", 11)), (11, tuple(all_pairs(11))))
        sides = [(a, b) for a in range(6) for b in range(6, 16)]
        self.assertEqual(web_for(("sides", 6, 10)), (16, tuple(sides)))
        fan = [(0, place) for place in range(1, 31)] + [(place, place + 1) for place in range(1, 30)]
        self.assertEqual(web_for(("fan", 30)), (31, tuple(sorted(fan))))
        self.assertEqual(web_for(("wheel", 30)), (31, tuple(sorted(fan + [(1, 30)]))))

    def test_each_number_of_one_number_kinds(self):
        for word, least, most in (("ring", 3, 40), ("full", 1, 11), ("wheel", 3, 30), ("fan", 1, 30)):
            for n in range(-5, 50):
                self.assertIs(kind_good((word, n)), least <= n <= most, (word, n))

    def test_each_two_numbers_of_sides(self):
        for m in range(-1, 43):
            for n in range(-1, 43):
                due = m >= 1 and n >= 1 and m + n <= 40 and m * n <= 60
                self.assertIs(kind_good(("sides", m, n)), due, (m, n))

    def test_each_kind_has_a_web(self):
        for m in range(1, 41):
            for kind in [(word, m) for word in WORDS[1:]] + [("sides", m, n) for n in range(1, 41)]:
                if kind_good(kind):
                    self.assertIs(is_web(web_for(kind)), True, kind)

    def test_what_is_no_kind(self):
        for thing in no_kinds():
            self.assertIs(kind_good(thing), False, repr(thing))

    def test_what_is_no_kind_is_refused(self):
        for thing in no_kinds():
            with self.assertRaises(NoKind) as taken:
                web_for(thing)
            self.assertIs(type(taken.exception), NoKind, repr(thing))


if __name__ == "__main__":
    unittest.main()
