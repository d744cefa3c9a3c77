"""Steps numberings of webs with few ties: counted, and led to their numbers in the order of tuples."""

from tienumbers.errors import NoNumber, NoPlace, TooGreat
from tienumbers.steps import check_steps
from tienumbers.ways import ways_by_number, ways_left
from tienumbers.webs import is_place
from tienumbers.wholes import unlike_within, whole_within

MOST_COUNTED_TIES = 7


def check_few_ties(web):
    if len(web[1]) > MOST_COUNTED_TIES:
        raise TooGreat(len(web[1]), MOST_COUNTED_TIES)


def check_begun(web, thing):
    if not isinstance(thing, tuple) or len(thing) > web[0] or not unlike_within(thing, 0, len(web[1])):
        raise NoNumber()


def steps_count(web):
    check_few_ties(web)
    return ways_left(web, {})


def nth_steps(web, number):
    if not whole_within(number, 0, steps_count(web) - 1):
        raise NoNumber()
    begun = ()
    left = number
    while len(begun) < web[0]:
        ways = ways_by_next(web, begun)
        choice = choice_at(ways, left)
        left -= sum(ways[:choice])
        begun = begun + (choice,)
    return begun


def choice_at(ways, left):
    choice = 0
    while sum(ways[:choice + 1]) <= left:
        choice += 1
    return choice


def rank_of(web, numbers):
    check_few_ties(web)
    check_steps(web, numbers)
    rank = 0
    for place, number in enumerate(numbers):
        rank += sum(ways_by_next(web, numbers[:place])[:number])
    return rank


def next_steps(web, numbers):
    check_few_ties(web)
    check_steps(web, numbers)
    # Of all that come behind, the next one has the most first numbers in common with this one.
    for place in range(web[0] - 1, -1, -1):
        begun = numbers[:place]
        greater = [number for number in next_numbers(web, begun) if number > numbers[place]]
        if greater:
            return first_from(web, begun + (greater[0],))
    return None


def first_from(web, begun):
    told = begun
    while len(told) < web[0]:
        told = told + (next_numbers(web, told)[0],)
    return told


def goes_on(web, begun):
    check_few_ties(web)
    check_begun(web, begun)
    return ways_left(web, dict(enumerate(begun)))


def next_numbers(web, begun):
    check_few_ties(web)
    check_begun(web, begun)
    if len(begun) == web[0]:
        return []
    return [number for number, ways in enumerate(ways_by_next(web, begun)) if ways > 0]


def ways_by_next(web, begun):
    return ways_by_number(web, dict(enumerate(begun)), len(begun))


def tally_at(web, place):
    check_few_ties(web)
    if not is_place(web[0], place):
        raise NoPlace()
    return ways_by_number(web, {}, place)
