"""Deeds at a desk: each makes a new web, and new numbers of its places, of those that stand.

The numbers are a dict by places, which no deed changes, so that the desk can go back to it.
"""

from tienumbers.errors import NoNumber, NoPlace, NoWeb
from tienumbers.kinds import web_for
from tienumbers.webs import is_place, tie_told, web_of
from tienumbers.wholes import whole_within

MOST_PUT = 60


def deed_done(web, numbers, word, given):
    if word == "tie":
        return (web_tied(web, given), numbers)
    if word == "cut":
        return (web_cut(web, given), numbers)
    if word == "put":
        return (web, numbers_put(web, numbers, given[0], given[1]))
    if word == "free":
        return (web, numbers_freed(web, numbers, given[0]))
    if word == "web":
        return (web_of(given[0], []), {})
    return (web_for(kind_told(word, given)), {})


def kind_told(word, given):
    if word == "spine":
        return (word, tuple(given))
    return tuple([word] + given)


def check_places(web, places):
    if not all([is_place(web[0], place) for place in places]):
        raise NoPlace()


def web_tied(web, ends):
    check_places(web, ends)
    # The new tie comes last, so where it can't be, the number in the refusal is how many ties there are.
    return web_of(web[0], list(web[1]) + [tuple(ends)])


def web_cut(web, ends):
    check_places(web, ends)
    tie = tie_told(web[0], tuple(ends))
    if tie not in web[1]:
        raise NoWeb(len(web[1]))
    return (web[0], tuple([other for other in web[1] if other != tie]))


def numbers_put(web, numbers, place, number):
    check_places(web, [place])
    others = numbers_without(numbers, place)
    if not whole_within(number, 0, MOST_PUT) or any([other == number for other in others.values()]):
        raise NoNumber()
    others[place] = number
    return others


def numbers_freed(web, numbers, place):
    check_places(web, [place])
    if place not in numbers:
        raise NoNumber()
    return numbers_without(numbers, place)


def numbers_without(numbers, place):
    others = dict(numbers)
    others.pop(place, None)
    return others
