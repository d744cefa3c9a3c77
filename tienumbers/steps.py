"""Steps numberings: places numbered so that the ties' steps are all unlike; and what bars them."""

from tienumbers.errors import NoNumber, TooGreat
from tienumbers.webs import MOST_PLACES, MOST_TIES, tie_counts, web_of
from tienumbers.wholes import is_whole, unlike_within

STEP_BARS = (("places",), ("even",))


def steps_of(web, numbers):
    if not places_numbered(web, numbers) or not all([is_whole(number) for number in numbers]):
        raise NoNumber()
    return steps_by(web, numbers)


def steps_good(web, thing):
    q = len(web[1])
    if not places_numbered(web, thing) or not unlike_within(thing, 0, q):
        return False
    return sorted(steps_by(web, thing)) == list(range(1, q + 1))


def places_numbered(web, thing):
    return isinstance(thing, tuple) and len(thing) == web[0]


def steps_by(web, numbers):
    return [abs(numbers[a] - numbers[b]) for a, b in web[1]]


def check_steps(web, thing):
    if not steps_good(web, thing):
        raise NoNumber()


def mirrored_steps(web, numbers):
    check_steps(web, numbers)
    return tuple([len(web[1]) - number for number in numbers])


def parted_at(web, numbers):
    check_steps(web, numbers)
    if not web[1]:
        return None
    lesser = max([min(numbers[a], numbers[b]) for a, b in web[1]])
    greater = min([max(numbers[a], numbers[b]) for a, b in web[1]])
    # The tie of step 1 leaves no number between, so only its lesser one can part.
    return lesser if lesser < greater else None


def parting_number(web, numbers):
    parting = parted_at(web, numbers)
    if parting is None:
        raise NoNumber()
    return parting


def half_turned(web, numbers):
    t = parting_number(web, numbers)
    above = len(web[1]) + t + 1
    return tuple([t - number if number <= t else above - number for number in numbers])


def upper_turned(web, numbers):
    # With the greater part alone turned, each sum of a tie's ends is one and the same number less its step.
    t = parting_number(web, numbers)
    above = len(web[1]) + t + 1
    return tuple([number if number <= t else above - number for number in numbers])


def step_bar_holds(web, thing):
    q = len(web[1])
    if thing == ("places",):
        return web[0] > q + 1
    if thing == ("even",):
        return all([count % 2 == 0 for count in tie_counts(web)]) and q * (q + 1) // 2 % 2 == 1
    return False


def step_bar(web):
    for bar in STEP_BARS:
        if step_bar_holds(web, bar):
            return bar
    return None


def joined_webs(web, numbers, other, others):
    t = parting_number(web, numbers)
    check_steps(other, others)
    places = web[0] + other[0] - 1
    check_room(places, len(web[1]) + len(other[1]))
    seats = joined_places(web[0], numbers.index(t), others)
    ties = list(web[1]) + [(seats[a], seats[b]) for a, b in other[1]]
    more = len(other[1])
    joined = [number if number <= t else number + more for number in numbers]
    joined.extend([number + t for number in others if number != 0])
    return (web_of(places, ties), tuple(joined))


def check_room(places, ties):
    if places > MOST_PLACES:
        raise TooGreat(places, MOST_PLACES)
    if ties > MOST_TIES:
        raise TooGreat(ties, MOST_TIES)


def joined_places(many, shared, others):
    seats = []
    further = many
    for number in others:
        if number == 0:
            seats.append(shared)
        else:
            seats.append(further)
            further += 1
    return seats
