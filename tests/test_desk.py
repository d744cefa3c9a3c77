"""Promises 10.2 to 10.4: a desk that is told deeds and asked questions."""

import itertools
import random
import unittest

from tests import test_evens, test_rounds, test_unlike
from tests.test_texts import ODD_WORDS
from tests.things import all_steps, odd_things, own_degrees, own_good, own_steps
from tienumbers.desk import Desk
from tienumbers.errors import NoKind, NoNumber, NoPlace, NoRow, NoWeb, TieError, TooGreat
from tienumbers.kinds import web_for
from tienumbers.texts import web_read

QUESTIONS = ["ties", "numbers", "steps", "good", "left", "first", "can 0", "can 1", "can 7", "bar steps", "bar round"]
QUESTIONS += ["bar even", "bar unlike", "shown"]

NO_ROWS = [
    "", " ", "  ", "ok", "none", "yes", "no", "webs 3", "Web 3", "WEB 3", "web", "web 3 3", "web  3", " web 3", "web 3 ",
    "web\t3", "web3", "web 3\n", "\nweb 3", "spine", "spine ", "spine 1 ", "spine 1  2", "spine (1, 2)", "spine a",
    "ring", "ring 3 3", "ring three", "sides 3", "sides", "sides 2 3 4", "sides 2,3", "full", "full 3 3", "wheel",
    "wheel 3 3", "fan", "fan 1 1", "tie", "tie 0", "tie 0 1 2", "tie 0-1", "tie 0  1", "tie 0 1 ", "cut", "cut 0",
    "cut 0 1 2", "put", "put 0", "put 0 1 2", "put 0 -", "free", "free 0 0", "free -", "back 1", "back ", "Back",
    "ties 0", "ties ", "numbers 1", "steps 1", "good 1", "left 1", "first 1", "can", "can 0 1", "can -", "can x", "bar",
    "bar ", "bar step", "bar total", "bar 1", "bar steps even", "bar Steps", "bar steps ", "bar  steps", "shown 1",
    "shown ", "star 3", "row 3", "0", "1 web", "tie 0 one", "put zero 0", "undo", "redo", "tie 0 1;", "good\r", "\ufeffback",
]


def odd_rows():
    found = list(NO_ROWS)
    for word in ODD_WORDS:
        found += ["web " + word, "ring " + word, "spine 1 " + word, "spine " + word, "sides 2 " + word, "can " + word]
        found += ["tie 0 " + word, "tie " + word + " 0", "put 0 " + word, "put " + word + " 0", "free " + word]
        found += ["cut " + word + " 1", "full " + word, "wheel " + word, "fan " + word, "bar " + word, "sides " + word + " 2"]
    return found


def joined(things):
    return " ".join(str(thing) for thing in things) or "none"


class Model:
    """A desk of the test's own: the deeds that stand are kept as rows, and each answer is made of them anew."""

    def __init__(self):
        self.rows = []

    def standing(self):
        web, numbers = (1, ()), {}
        for row in self.rows:
            web, numbers = self.done(web, dict(numbers), row.split(" "))
        return web, numbers

    def done(self, web, numbers, words):
        word, given = words[0], [int(other) for other in words[1:]]
        many, ties = web
        if word == "web":
            if not 1 <= given[0] <= 40:
                raise NoWeb(-1)
            return (given[0], ()), {}
        if word in ("tie", "cut"):
            tie = (min(given), max(given))
            if not all(0 <= place < many for place in given):
                raise NoPlace()
            wrong = tie in ties or len(ties) == 60 or tie[0] == tie[1] if word == "tie" else tie not in ties
            if wrong:
                raise NoWeb(len(ties))
            return (many, tuple(sorted(set(ties) ^ {tie}))), numbers
        if word in ("put", "free"):
            if not 0 <= given[0] < many:
                raise NoPlace()
            had = numbers.pop(given[0], None)
            if word == "free" and had is None or word == "put" and (given[1] not in range(61) or given[1] in numbers.values()):
                raise NoNumber()
            if word == "put":
                numbers[given[0]] = given[1]
            return web, numbers
        return web_for((word, tuple(given)) if word == "spine" else (word, *given)), {}

    def say(self, row):
        web, numbers = self.standing()
        words = row.split(" ")
        if row == "back":
            if not self.rows:
                raise NoRow()
            self.rows.pop()
            return "ok"
        if row in QUESTIONS or words[0] == "can":
            return self.answer(web, numbers, words)
        self.done(web, dict(numbers), words)
        self.rows.append(row)
        return "ok"

    def answer(self, web, numbers, words):
        word = words[0]
        if word == "ties":
            return joined(f"{a}-{b}" for a, b in web[1])
        if word == "numbers":
            return joined(numbers.get(place, "-") for place in range(web[0]))
        if word == "steps":
            return joined(own_steps((web[0], ((a, b),)), numbers)[0] if a in numbers and b in numbers else "-"
                          for a, b in web[1])
        if word == "good":
            return "yes" if own_good(web, tuple(numbers.get(place) for place in range(web[0]))) else "no"
        if word == "shown":
            return " ; ".join([f"web {web[0]}"] + [f"tie {a} {b}" for a, b in web[1]])
        if word == "bar":
            return joined(self.bar(web, words[1]))
        return self.counted(web, numbers, words)

    def counted(self, web, numbers, words):
        if len(web[1]) > 7:
            raise TooGreat(len(web[1]), 7)
        those = [one for one in all_steps(web) if all(one[place] == number for place, number in numbers.items())]
        if words[0] == "left":
            return str(len(those))
        if words[0] == "first":
            return joined(min(those)) if those else "none"
        if not 0 <= int(words[1]) < web[0]:
            raise NoPlace()
        return joined(sorted({one[int(words[1])] for one in those}))

    def bar(self, web, word):
        if word == "steps":
            q = len(web[1])
            bars = [("places",)] if web[0] > q + 1 else []
            bars += [("even",)] if q * (q + 1) % 4 and not any(degree % 2 for degree in own_degrees(web)) else []
        else:
            bars = {"round": test_rounds, "even": test_evens, "unlike": test_unlike}[word].own_bars(web)
        return bars[0] if bars else ()


def told(desk, row):
    try:
        return desk.say(row)
    except TieError as error:
        return (type(error), vars(error))


class DeskCase(unittest.TestCase):
    def play(self, rows):
        desk = Desk()
        return [desk.say(row) for row in rows]

    def refuse(self, desk, row, error, **fields):
        before = [told(desk, question) for question in QUESTIONS]
        with self.assertRaises(error) as taken:
            desk.say(row)
        self.assertIs(type(taken.exception), error, repr(row))
        self.assertEqual(vars(taken.exception), fields, repr(row))
        self.assertEqual([told(desk, question) for question in QUESTIONS], before)


class DeedsTest(DeskCase):
    def test_at_first(self):
        due = {"ties": "none", "numbers": "-", "steps": "none", "good": "no", "left": "1", "first": "0", "can 0": "0",
               "bar steps": "none", "bar round": "none", "bar even": "none", "bar unlike": "none", "shown": "web 1"}
        self.assertEqual({row: Desk().say(row) for row in due}, due)

    def test_webs_and_kinds(self):
        for row, kind in (("spine 0", ("spine", (0,))), ("spine 1 0 2", ("spine", (1, 0, 2))), ("ring 5", ("ring", 5)),
                          ("sides 2 3", ("sides", 2, 3)), ("full 4", ("full", 4)), ("wheel 3", ("wheel", 3)),
                          ("fan 1", ("fan", 1)), ("ring 40", ("ring", 40)), ("sides 6 10", ("sides", 6, 10)),
                          ("full 11", ("full", 11)), ("wheel 30", ("wheel", 30)), ("fan 30", ("fan", 30)),
                          ("spine" + " 0" * 40, ("spine", (0,) * 40)), ("spine 39", ("spine", (39,)))):
            desk = Desk()
            self.assertEqual(desk.say("put 0 3"), "ok")
            self.assertEqual(desk.say(row), "ok")
            self.assertEqual(web_read(desk.say("shown").replace(" ; ", "\n")), web_for(kind))
            self.assertEqual(set(desk.say("numbers")), set("- ") if web_for(kind)[0] > 1 else {"-"})
        desk = Desk()
        for many in (1, 2, 40):
            self.assertEqual(desk.say(f"web {many}"), "ok")
            self.assertEqual(desk.say("shown"), f"web {many}")

    def test_webs_and_kinds_refused(self):
        desk = Desk()
        for row in ("ring 4", "put 0 4", "put 2 1"):
            desk.say(row)
        for many in (0, 41, -1, -40, 10 ** 99, 1 - 10 ** 100):
            self.refuse(desk, f"web {many}", NoWeb, number=-1)
        for row in ("spine -1", "spine 40", "spine 1 -1", "spine" + " 0" * 41, "ring 2", "ring 41", "ring -3", "sides 0 3",
                    "sides 2 31", "sides 8 8", "sides -1 2", "full 0", "full 12", "wheel 2", "wheel 31", "fan 0", "fan 31",
                    "ring " + "9" * 100, "spine " + "9" * 100, "sides 1 " + "9" * 100):
            self.refuse(desk, row, NoKind)

    def test_ties(self):
        desk = Desk()
        for row in ("web 4", "tie 2 0", "tie 0 1", "put 3 9", "put 0 2", "tie 3 2"):
            self.assertEqual(desk.say(row), "ok")
        self.assertEqual(desk.say("ties"), "0-1 0-2 2-3")
        self.assertEqual(desk.say("numbers"), "2 - - 9")
        for row in ("tie 0 1", "tie 1 0", "tie 0 0", "tie 3 2", "cut 1 2", "cut 2 1", "cut 0 0", "cut 1 1"):
            self.refuse(desk, row, NoWeb, number=3)
        for row in ("tie 0 4", "tie 4 0", "tie -1 0", "tie 4 4", "tie -1 -1", "cut 0 4", "cut -1 1", "cut 4 4"):
            self.refuse(desk, row, NoPlace)
        self.assertEqual(desk.say("cut 2 0"), "ok")
        self.assertEqual((desk.say("ties"), desk.say("numbers")), ("0-1 2-3", "2 - - 9"))
        self.refuse(desk, "cut 0 2", NoWeb, number=2)
        for row in ("cut 0 1", "cut 3 2"):
            self.assertEqual(desk.say(row), "ok")
        self.assertEqual((desk.say("ties"), desk.say("numbers")), ("none", "2 - - 9"))
        self.refuse(desk, "cut 0 1", NoWeb, number=0)

    def test_sixty_ties(self):
        desk = Desk()
        desk.say("web 40")
        pairs = list(itertools.combinations(range(40), 2))[:60]
        for a, b in pairs:
            self.assertEqual(desk.say(f"tie {b} {a}"), "ok")
        self.assertEqual(desk.say("ties"), " ".join(f"{a}-{b}" for a, b in pairs))
        self.refuse(desk, "tie 38 39", NoWeb, number=60)
        self.refuse(desk, "tie 38 40", NoPlace)
        self.refuse(desk, "tie 0 1", NoWeb, number=60)
        self.assertEqual(desk.say("cut 0 1"), "ok")
        self.assertEqual(desk.say("tie 38 39"), "ok")

    def test_put_and_free(self):
        desk = Desk()
        for row in ("web 3", "put 0 0", "put 2 60", "put 0 5", "put 0 5", "put 1 0"):
            self.assertEqual(desk.say(row), "ok")
        self.assertEqual(desk.say("numbers"), "5 0 60")
        for row in ("put 0 0", "put 1 60", "put 2 -1", "put 0 61", "put 0 -5", "put 1 " + "9" * 100):
            self.refuse(desk, row, NoNumber)
        for row in ("put 3 1", "put -1 1", "put 3 61", "put 3 5", "free 3", "free -1"):
            self.refuse(desk, row, NoPlace)
        self.assertEqual(desk.say("free 2"), "ok")
        self.assertEqual(desk.say("numbers"), "5 0 -")
        self.refuse(desk, "free 2", NoNumber)
        self.assertEqual(desk.say("put 0 60"), "ok")
        self.assertEqual(desk.say("numbers"), "60 0 -")

    def test_numbers_stay_and_go(self):
        for row in ("web 3", "spine 0 0 0", "ring 3", "sides 1 2", "full 3", "wheel 3", "fan 2"):
            desk = Desk()
            for deed in ("ring 3", "put 1 7", "cut 0 1", "tie 0 1"):
                desk.say(deed)
            self.assertEqual(desk.say("numbers"), "- 7 -")
            desk.say(row)
            self.assertNotIn("7", desk.say("numbers"))
            self.assertEqual(desk.say("back"), "ok")
            self.assertEqual(desk.say("numbers"), "- 7 -")


class BackTest(DeskCase):
    DEEDS = ["web 5", "tie 0 1", "tie 3 2", "put 1 4", "put 1 4", "cut 1 0", "put 1 2", "free 1", "put 0 60", "ring 4",
             "ring 4", "spine 1 1", "sides 2 2", "put 3 1", "full 3", "wheel 4", "fan 3", "web 5", "web 5", "put 4 0"]

    def test_over_each_deed_until_nothing_stands(self):
        desk = Desk()
        seen = [[told(desk, question) for question in QUESTIONS]]
        for row in self.DEEDS:
            self.assertEqual(desk.say(row), "ok")
            seen.append([told(desk, question) for question in QUESTIONS])
        for before in reversed(seen[:-1]):
            self.assertEqual(desk.say("back"), "ok")
            self.assertEqual([told(desk, question) for question in QUESTIONS], before)
        for turn in range(3):
            self.refuse(desk, "back", NoRow)

    def test_back_itself_is_not_undone(self):
        self.assertEqual(self.play(["web 2", "tie 0 1", "back", "back", "shown"])[-1], "web 1")
        self.assertEqual(self.play(["web 2", "tie 0 1", "back", "tie 1 0", "back", "shown"])[-1], "web 2")

    def test_what_is_refused_and_questions_are_no_deeds(self):
        desk = Desk()
        desk.say("web 2")
        desk.say("tie 0 1")
        for row in ("tie 0 1", "web 0", "ring 2", "put 2 0", "free 0", "nothing", "ties", "numbers", "left"):
            told(desk, row)
        self.assertEqual(desk.say("back"), "ok")
        self.assertEqual(desk.say("shown"), "web 2")
        self.assertEqual(desk.say("back"), "ok")
        self.refuse(desk, "back", NoRow)

    def test_a_deed_that_changed_nothing(self):
        desk = Desk()
        self.assertEqual([desk.say(row) for row in ("web 1", "put 0 5", "put 0 5", "back", "numbers")][-1], "5")
        self.assertEqual([desk.say(row) for row in ("back", "numbers")][-1], "-")
        self.assertEqual(desk.say("back"), "ok")
        self.refuse(desk, "back", NoRow)

    def test_very_many_deeds(self):
        desk = Desk()
        for turn in range(3000):
            desk.say(f"put 0 {turn % 61}")
        for turn in range(3000):
            self.assertEqual(desk.say("back"), "ok")
        self.refuse(desk, "back", NoRow)


class QuestionsTest(DeskCase):
    def test_a_row_of_three(self):
        desk = Desk()
        for row, due in (("spine 0 0 0", "ok"), ("ties", "0-1 1-2"), ("numbers", "- - -"), ("steps", "- -"), ("left", "4"),
                         ("first", "0 2 1"), ("can 1", "0 2"), ("put 0 1", "ok"), ("can 1", "0 2"), ("can 0", "1"),
                         ("left", "2"), ("first", "1 0 2"), ("put 1 2", "ok"), ("steps", "1 -"), ("can 2", "0"),
                         ("good", "no"), ("put 2 0", "ok"), ("good", "yes"), ("steps", "1 2"), ("numbers", "1 2 0"),
                         ("left", "1"), ("first", "1 2 0"), ("can 0", "1"), ("free 1", "ok"), ("good", "no"),
                         ("put 1 9", "ok"), ("left", "0"), ("first", "none"), ("can 0", "none"), ("can 1", "none"),
                         ("good", "no"), ("steps", "8 9"), ("bar steps", "none"), ("bar round", "none"),
                         ("bar even", "end 0"), ("bar unlike", "none"), ("shown", "web 3 ; tie 0 1 ; tie 1 2")):
            self.assertEqual(desk.say(row), due, row)

    def test_bars(self):
        for rows, due in ((["web 2"], "places; none; none; bare 0 1"), (["ring 5"], "even; none; pair 0 1; none"),
                          (["ring 6"], "even; share 2; pair 0 1; none"), (["ring 4"], "none; all; pair 0 1; none"),
                          (["web 3", "tie 1 2"], "places; places; lone; lone 0"),
                          (["full 4"], "none; none; count; none"), (["spine 0 0 0 0"], "none; none; end 0; none"),
                          (["sides 3 5"], "none; none; sides 0; none")):
            desk = Desk()
            for row in rows:
                desk.say(row)
            got = [desk.say("bar " + word) for word in ("steps", "round", "even", "unlike")]
            self.assertEqual("; ".join(got), due, rows)

    def test_webs_of_seven_and_of_eight_ties(self):
        desk = Desk()
        for row in ("sides 1 7", "put 0 7"):
            desk.say(row)
        self.assertEqual((desk.say("left"), desk.say("first")), ("5040", "7 0 1 2 3 4 5 6"))
        self.assertEqual(desk.say("can 3"), "0 1 2 3 4 5 6")
        self.refuse(desk, "can 8", NoPlace)
        self.refuse(desk, "can -1", NoPlace)
        desk.say("tie 1 2")
        for row in ("left", "first", "can 0", "can 8", "can -1"):
            self.refuse(desk, row, TooGreat, many=8, most=7)
        self.refuse(desk, "can x", NoRow)
        self.assertEqual(desk.say("steps"), "- - - - - - - -")
        desk.say("cut 0 7")
        self.assertEqual(desk.say("left"), str(len([one for one in self.own_steps(desk) if one[0] == 7])))

    def own_steps(self, desk):
        return all_steps(web_read(desk.say("shown").replace(" ; ", "\n")))

    def test_places_without_ties(self):
        desk = Desk()
        for row in ("ring 3", "web 4", "tie 0 1", "tie 0 2", "tie 1 2", "put 3 2"):
            desk.say(row)
        those = [one for one in self.own_steps(desk) if one[3] == 2]
        self.assertEqual(desk.say("left"), str(len(those)))
        self.assertEqual(desk.say("first"), " ".join(map(str, min(those))))
        self.assertEqual(desk.say("bar even"), "lone")

    def test_more_places_than_numbers(self):
        desk = Desk()
        desk.say("web 40")
        self.assertEqual([desk.say(row) for row in ("left", "first", "can 39", "good")], ["0", "none", "none", "no"])
        desk.say("put 39 0")
        self.assertEqual([desk.say(row) for row in ("left", "first", "can 39", "can 0")], ["0", "none", "none", "none"])


class NoRowTest(DeskCase):
    def test_what_is_no_text(self):
        desk = Desk()
        for row in ("ring 4", "put 1 2"):
            desk.say(row)
        for thing in odd_things() + [("ties",), ["ties"], {"ties": 1}, 5, ["web", 3]]:
            with self.assertRaises(NoRow) as taken:
                desk.say(thing)
            self.assertIs(type(taken.exception), NoRow)
        self.assertEqual((desk.say("numbers"), desk.say("ties")), ("- 2 - -", "0-1 0-3 1-2 2-3"))

    def test_other_rows_ahead_of_all_else(self):
        for deeds in (["ring 4", "put 1 2"], ["ring 9"], []):
            desk = Desk()
            for deed in deeds:
                desk.say(deed)
            shown = [desk.say(row) for row in ("shown", "numbers")]
            for row in odd_rows():
                with self.assertRaises(NoRow, msg=repr(row)) as taken:
                    desk.say(row)
                self.assertIs(type(taken.exception), NoRow, repr(row))
            self.assertEqual([desk.say(row) for row in ("shown", "numbers")], shown)
            for deed in deeds:
                self.assertEqual(desk.say("back"), "ok")
            self.refuse(desk, "back", NoRow)


def drawn_row(drawn):
    places = lambda: drawn.choice([0, 0, 1, 1, 2, 2, 3, 3, 4, 5, -1])
    small = lambda: drawn.choice([0, 1, 2, 3, 4, 5, 6, 7, 8, 60, 61, -1])
    rows = [f"tie {places()} {places()}"] * 8 + [f"cut {places()} {places()}"] * 3 + [f"put {places()} {small()}"] * 8
    rows += [f"free {places()}"] * 2 + ["back"] * 4 + [f"can {places()}"] * 2
    if drawn.random() < 0.25:
        rows += [f"web {drawn.choice([0, 1, 3, 4, 5, 6, 41])}", f"ring {places()}", f"sides {places()} {places()}"]
        rows += [f"full {places()}", f"fan {places()}", f"wheel {places()}", f"spine {places()} {places()}"]
    return drawn.choice(rows)


class WholeDeskTest(DeskCase):
    def test_against_a_desk_of_the_tests_own(self):
        drawn = random.Random(104)
        for turn in range(40):
            desk, model = Desk(), Model()
            for row in ["web 5"] + [drawn_row(drawn) for k in range(40)]:
                self.assertEqual(told(desk, row), told(model, row), (model.rows, row))
                question = drawn.choice(QUESTIONS)
                self.assertEqual(told(desk, question), told(model, question), (model.rows, question))

    def test_what_stands_is_all(self):
        drawn = random.Random(7)
        for turn in range(20):
            desk, model = Desk(), Model()
            for row in [drawn_row(drawn) for k in range(60)]:
                told(desk, row)
                told(model, row)
            anew = Desk()
            for row in model.rows:
                anew.say(row)
            self.assertEqual([told(anew, row) for row in QUESTIONS], [told(desk, row) for row in QUESTIONS])

    def test_two_desks_told_in_turn(self):
        drawn = random.Random(3)
        rows = [[drawn_row(drawn) for k in range(80)] for desk in range(2)]
        both = [Desk(), Desk()]
        heard = [[], []]
        for pair in zip(*rows):
            for k in range(2):
                heard[k].append([told(both[k], row) for row in [pair[k]] + QUESTIONS])
        for k in range(2):
            alone = Desk()
            self.assertEqual([[told(alone, row) for row in [one] + QUESTIONS] for one in rows[k]], heard[k])

    def test_asked_again_behind_others(self):
        desk = Desk()
        for row in ("ring 4", "put 0 0", "put 2 1"):
            desk.say(row)
        first = [told(desk, row) for row in QUESTIONS]
        self.assertEqual([told(desk, row) for row in reversed(QUESTIONS)], first[::-1])
        self.assertEqual([told(desk, row) for row in QUESTIONS], first)


if __name__ == "__main__":
    unittest.main()
