"""Webs and numbers written as texts, and read again."""

from tienumbers.errors import NoText
from tienumbers.webs import MOST_TIES, many_good, tie_told

FIGURES = "0123456789"
MOST_FIGURES = 100


def number_read(word):
    figures = word[1:] if word.startswith("-") else word
    if not 1 <= len(figures) <= MOST_FIGURES or not all([sign in FIGURES for sign in figures]):
        return None
    if figures[0] == "0" and word != "0":
        return None
    return int(word)


def web_shown(web):
    many = web[0]
    return "\n".join([f"web {many}"] + [f"tie {a} {b}" for a, b in web[1]])


def web_read(text):
    if not isinstance(text, str):
        raise NoText(0)
    rows = text.split("\n")
    many = many_read(rows[0])
    if many is None:
        raise NoText(1)
    ties = []
    for number, row in enumerate(rows[1:]):
        tie = tie_read(many, row)
        if tie is None or number >= MOST_TIES or (ties and tie <= ties[-1]):
            raise NoText(number + 2)
        ties.append(tie)
    return (many, tuple(ties))


def many_read(row):
    numbers = numbers_behind("web", row)
    return numbers[0] if len(numbers) == 1 and many_good(numbers[0]) else None


def tie_read(many, row):
    # Both ends told the other way about would be a tie, too, but they aren't so written.
    told = tuple(numbers_behind("tie", row))
    return told if tie_told(many, told) == told else None


def numbers_behind(word, row):
    words = row.split(" ")
    return [number_read(other) for other in words[1:]] if words[0] == word else []
