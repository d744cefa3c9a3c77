"""Promise 10.1: webs written as texts, and read again."""

import unittest

from tests.things import (
    fans_and_wheels, full_kinds, greatest_web, odd_things, pieced, ring_web, row_web, sides_web, small_webs, star_web,
    webs_of,
)
from tienumbers.errors import NoText
from tienumbers.kinds import web_for
from tienumbers.texts import number_read, web_read, web_shown

TEXT = "web 5\ntie 0 1\ntie 0 4\ntie 2 3"
ODD_WORDS = [
    "", "00", "01", "007", "-0", "-00", "-01", "+1", "--1", "-", "1-", "1.0", "1e0", "0x1", "1_0", " 1", "1 ", "\t1",
    "1\t", "one", "\u0661", "\u00b2", "\uff11", "1,", "0b1", "1l", "None", "True", "1" * 101, "-" + "1" * 101,
    "0" * 100, "\r", "1\r", "\u00a01",
]


def webs():
    found = small_webs() + webs_of(5)[::9] + [greatest_web(), (40, ()), row_web(40), star_web(40), sides_web(6, 10)]
    found += [web_for(kind) for kind in fans_and_wheels() + full_kinds()]
    return found + [pieced([ring_web(3), (3, ()), row_web(12)])]


class NumbersTest(unittest.TestCase):
    def test_numbers(self):
        for number in [0, 1, 9, 10, 40, 101, -1, -10, 10 ** 99, 10 ** 100 - 1, 1 - 10 ** 100, -(10 ** 99)]:
            self.assertEqual(number_read(str(number)), number)

    def test_what_is_written_otherwise(self):
        for word in ODD_WORDS + [str(10 ** 100), str(-(10 ** 100))]:
            self.assertIsNone(number_read(word), repr(word))


class ShownTest(unittest.TestCase):
    def test_written_out(self):
        self.assertEqual(web_shown((1, ())), "web 1")
        self.assertEqual(web_shown((5, ((0, 1), (0, 4), (2, 3)))), TEXT)
        self.assertEqual(web_shown((40, ((9, 10), (9, 39)))), "web 40\ntie 9 10\ntie 9 39")

    def test_shown_and_read_again(self):
        for web in webs():
            text = web_shown(web)
            self.assertIs(type(text), str)
            self.assertEqual(text.count("\n"), len(web[1]))
            self.assertEqual(web_read(text), web)


class ReadTest(unittest.TestCase):
    def refuse(self, text, row):
        with self.assertRaises(NoText) as taken:
            web_read(text)
        self.assertIs(type(taken.exception), NoText, repr(text))
        self.assertEqual(taken.exception.row, row, repr(text))

    def test_written_out(self):
        self.assertEqual(web_read("web 1"), (1, ()))
        self.assertEqual(web_read("web 40"), (40, ()))
        self.assertEqual(web_read(TEXT), (5, ((0, 1), (0, 4), (2, 3))))

    def test_what_is_no_text(self):
        for thing in odd_things() + [[TEXT], (TEXT,), {TEXT: TEXT}, 5, TEXT.split("\n")]:
            if not isinstance(thing, str):
                self.refuse(thing, 0)

    def test_other_texts(self):
        for text in odd_things():
            if isinstance(text, str):
                self.refuse(text, 1)

    def test_the_first_row(self):
        rows = ["", " ", "web", "web ", "web  5", " web 5", "web 5 ", "web 5 5", "Web 5", "WEB 5", "web5", "webs 5", "5"]
        rows += ["tie 0 1", "5 web", "web\t5", "web 0", "web 41", "web -1", "web -5", "web " + "9" * 100, "web 5\r"]
        rows += ["web " + word for word in ODD_WORDS] + ["web 1000", "web\u00a05", "web 5\x0b", "\ufeffweb 5", "we 5"]
        for row in rows:
            self.refuse(row, 1)
            self.refuse(row + "\ntie 0 1", 1)
            self.refuse(row + "\nnone", 1)

    def test_one_row_amiss_at_each_place(self):
        wrong = ["", " ", "tie", "tie ", "tie 1", "tie 1 ", "tie 1 2 ", " tie 1 2", "tie  1 2", "tie 1  2", "tie 1 2 3"]
        wrong += ["Tie 1 2", "TIE 1 2", "tied 1 2", "ti 1 2", "1 2", "cut 1 2", "web 5", "tie 1-2", "tie 1,2", "tie 12"]
        wrong += ["tie 2 1", "tie 1 1", "tie 1 5", "tie 5 6", "tie -1 2", "tie -2 -1", "tie 1 40", "tie 1 " + "9" * 100]
        wrong += ["tie\t1\t2", "tie 1 2\r", "tie 1 two", "tie 0 0", "\ttie 1 2", "tie 1 2\t", "tie 1 2;", "tie (1, 2)"]
        wrong += ["tie " + word + " 4" for word in ODD_WORDS] + ["tie 0 " + word for word in ODD_WORDS]
        rows = ["web 5", "tie 0 1", "tie 0 4", "tie 2 3"]
        for row in wrong:
            for at in (1, 2, 3, 4):
                self.refuse("\n".join(rows[:at] + [row] + rows[at:]), at + 1)
                self.refuse("\n".join(rows[:at] + [row] + rows[at + 1:]), at + 1)
                self.refuse("\n".join(rows[:at] + [row, row] + rows[at:]), at + 1)

    def test_not_greater_than_the_one_ahead(self):
        self.refuse("web 5\ntie 0 1\ntie 0 1", 3)
        self.refuse("web 5\ntie 0 2\ntie 0 1", 3)
        self.refuse("web 5\ntie 1 2\ntie 0 4\ntie 2 3", 3)
        self.refuse("web 5\ntie 0 1\ntie 2 3\ntie 0 1", 4)
        self.refuse("web 5\ntie 0 1\ntie 1 0", 3)
        self.refuse("web 5\ntie 0 1\ntie 2 3\ntie 0 4", 4)
        self.refuse("web 5\ntie 0 1\ntie 2 4\ntie 2 3\ntie 3 4", 4)
        self.assertEqual(web_read("web 12\ntie 0 9\ntie 0 10\ntie 2 11\ntie 10 11")[1], ((0, 9), (0, 10), (2, 11), (10, 11)))

    def test_a_row_without_signs_behind(self):
        self.refuse("web 5\n", 2)
        self.refuse(TEXT + "\n", 5)
        self.refuse(TEXT + "\n\n", 5)
        self.refuse("\n" + TEXT, 1)
        self.refuse("\n", 1)
        self.refuse("", 1)

    def test_the_sixty_first(self):
        pairs = [(a, b) for a in range(12) for b in range(a + 1, 12)]
        rows = ["web 12"] + [f"tie {a} {b}" for a, b in pairs]
        self.assertEqual(web_read("\n".join(rows[:61])), (12, tuple(pairs[:60])))
        self.refuse("\n".join(rows[:62]), 62)
        self.refuse("\n".join(rows), 62)
        self.refuse("\n".join(rows[:61] + [""]), 62)
        self.refuse("\n".join(rows[:40] + ["tie 0 1"] + rows[40:]), 41)

    def test_other_ends_of_rows(self):
        for end in ("\r\n", "\r", "\x0b", "\x0c", "\u2028", "\x85", " ", ";", " ; "):
            self.refuse(TEXT.replace("\n", end), 1)


if __name__ == "__main__":
    unittest.main()
