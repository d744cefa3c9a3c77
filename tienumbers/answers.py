"""Questions at a desk: what is answered of a web, and of the numbers put to some of its places.

The numbers are a dict by places: unlike whole numbers from 0 on, which may be too great for a steps numbering.
"""

from tienumbers.counting import check_few_ties
from tienumbers.errors import NoPlace
from tienumbers.evens import even_bar
from tienumbers.rounds import round_bar
from tienumbers.steps import step_bar, steps_good
from tienumbers.texts import web_shown
from tienumbers.unlike import unlike_bar
from tienumbers.ways import ways_by_number, ways_left
from tienumbers.webs import is_place


def answer_told(web, numbers, word, given):
    if word == "ties":
        return row_told([f"{a}-{b}" for a, b in web[1]])
    if word == "numbers":
        return row_told([numbers.get(place, "-") for place in range(web[0])])
    if word == "steps":
        return row_told([step_told(numbers, tie) for tie in web[1]])
    if word == "good":
        return "yes" if steps_good(web, tuple([numbers.get(place) for place in range(web[0])])) else "no"
    if word == "bar":
        return row_told(bar_asked(web, given[0]))
    if word == "shown":
        return web_shown(web).replace("\n", " ; ")
    return counted_told(web, numbers, word, given)


def counted_told(web, numbers, word, given):
    check_few_ties(web)
    if word == "left":
        return str(ways_with(web, numbers))
    if word == "first":
        return row_told(first_with(web, numbers))
    if not is_place(web[0], given[0]):
        raise NoPlace()
    return row_told(numbers_at(web, numbers, given[0]))


def row_told(things):
    return " ".join([str(thing) for thing in things]) if things else "none"


def step_told(numbers, tie):
    if tie[0] not in numbers or tie[1] not in numbers:
        return "-"
    return abs(numbers[tie[0]] - numbers[tie[1]])


def bar_asked(web, word):
    if word == "steps":
        return step_bar(web)
    if word == "round":
        return round_bar(web)
    if word == "even":
        return even_bar(web)
    return unlike_bar(web)


def ways_with(web, numbers):
    return ways_left(web, numbers) if none_too_great(web, numbers) else 0


def none_too_great(web, numbers):
    return all([number <= len(web[1]) for number in numbers.values()])


def numbers_at(web, numbers, place):
    if place in numbers:
        return [numbers[place]] if ways_with(web, numbers) > 0 else []
    if not none_too_great(web, numbers):
        return []
    return [number for number, ways in enumerate(ways_by_number(web, numbers, place)) if ways > 0]


def first_with(web, numbers):
    if ways_with(web, numbers) == 0:
        return None
    held = dict(numbers)
    for place in range(web[0]):
        if place not in held:
            held[place] = numbers_at(web, held, place)[0]
    return [held[place] for place in range(web[0])]
