"""Bars: a word and whole numbers that show why a web can't be numbered in some way."""

from tienumbers.wholes import is_whole


def bar_formed(forms, thing):
    # Each form is a word with how many numbers stand behind it.
    if not isinstance(thing, tuple) or len(thing) == 0:
        return False
    return (thing[0], len(thing) - 1) in forms and all([is_whole(number) for number in thing[1:]])


def first_bar(web, bars, holds):
    for bar in bars:
        if holds(web, bar):
            return bar
    return None


def share_bars(most):
    return [("share", share) for share in range(2, most + 1)]
