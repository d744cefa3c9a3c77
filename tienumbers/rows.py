"""Rows that a desk is told: a word, and numbers or another word behind it."""

from tienumbers.errors import NoRow
from tienumbers.texts import number_read

# How many numbers stand behind each word; those of a spine are one or more.
NUMBERS_BEHIND = {
    "web": 1, "ring": 1, "sides": 2, "full": 1, "wheel": 1, "fan": 1, "tie": 2, "cut": 2, "put": 2, "free": 1,
    "back": 0, "ties": 0, "numbers": 0, "steps": 0, "good": 0, "left": 0, "first": 0, "can": 1, "shown": 0,
}
BAR_WORDS = ("steps", "round", "even", "unlike")
QUESTIONS = ("ties", "numbers", "steps", "good", "left", "first", "can", "bar", "shown")


def row_read(row):
    if not isinstance(row, str):
        raise NoRow()
    words = row.split(" ")
    if words[0] == "bar":
        return bar_row(words)
    numbers = [number_read(word) for word in words[1:]]
    if None in numbers or not many_due(words[0], len(numbers)):
        raise NoRow()
    return (words[0], numbers)


def bar_row(words):
    if len(words) != 2 or words[1] not in BAR_WORDS:
        raise NoRow()
    return (words[0], words[1:])


def many_due(word, many):
    if word == "spine":
        return many >= 1
    return word in NUMBERS_BEHIND and many == NUMBERS_BEHIND[word]


def is_question(word):
    return word in QUESTIONS
