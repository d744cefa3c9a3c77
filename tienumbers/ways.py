"""In how many ways the places that have no number yet can be numbered so that a steps numbering comes.

What is given is a dict: some places of the web, with unlike numbers from 0 to how many ties there are.
"""

from tienumbers.webs import tied_places


def ways_left(web, given):
    places = sorted(given)
    return ways_behind(web, places, [[given[place] for place in places]])[0]


def ways_by_number(web, given, place):
    places = sorted(given)
    numbers = [given[other] for other in places]
    return ways_behind(web, places + [place], [numbers + [number] for number in range(len(web[1]) + 1)])


def ways_behind(web, places, rows):
    if web[0] > len(web[1]) + 1:
        return [0 for numbers in rows]
    ways = Ways(web, places)
    return [ways.ways_begun(numbers) for numbers in rows]


class Ways:
    # The places are numbered in an order, whose seats are counted from 0. Numbers and steps that are taken are kept
    # as the bits of one whole number, so that it shows at once whether another one is among them.
    def __init__(self, web, first):
        tied = tied_places(web)
        order = order_from(tied, first)
        self.room = len(web[1]) + 1
        self.tied = [seats_tied(tied, order[:seat], [order[seat]]) for seat in range(web[0])]
        self.waiting = [seats_tied(tied, order[:seat], order[seat:]) for seat in range(web[0])]
        self.known = {}

    def ways_begun(self, numbers):
        taken = 0
        steps = 0
        for seat, number in enumerate(numbers):
            steps = steps_with(steps, number, [numbers[other] for other in self.tied[seat]])
            if steps is None or taken & (1 << number):
                return 0
            taken = taken | (1 << number)
        return self.ways_from(tuple(numbers), taken, steps)

    def ways_from(self, numbers, taken, steps):
        seat = len(numbers)
        if seat == len(self.tied):
            return 1
        held = tuple([numbers[other] for other in self.waiting[seat]])
        # What is still to come hangs on no more than this, so it is counted once for all that come to it.
        state = (taken, steps, held)
        if state not in self.known:
            going = greatest_step_may_come(self.room, taken, steps, held)
            self.known[state] = self.ways_onward(numbers, taken, steps) if going else 0
        return self.known[state]

    def ways_onward(self, numbers, taken, steps):
        ends = [numbers[other] for other in self.tied[len(numbers)]]
        found = 0
        for number in range(self.room):
            more = None if taken & (1 << number) else steps_with(steps, number, ends)
            if more is not None:
                found += self.ways_from(numbers + (number,), taken | (1 << number), more)
        return found


def steps_with(steps, number, ends):
    more = steps
    for end in ends:
        step = 1 << abs(number - end)
        if more & step:
            return None
        more = more | step
    return more


def greatest_step_may_come(room, taken, steps, held):
    # Of all steps that are missing the greatest one has the fewest pairs of numbers left, so it fails first.
    missing = (1 << room) - 2 - steps
    if missing == 0:
        return True
    step = missing.bit_length() - 1
    usable = (1 << room) - 1 - taken
    for number in held:
        usable = usable | (1 << number)
    pairs = usable & (usable >> step)
    settled = taken & (taken >> step)
    return (pairs | settled) != settled


def order_from(tied, first):
    # Places with many ties come early, those tied to ones ahead first of all, so that steps clash soon.
    order = list(first)
    while len(order) < len(tied):
        left = [place for place in range(len(tied)) if place not in order]
        order.append(max(left, key=lambda place: ties_worth(tied[place], order)))
    return order


def ties_worth(others, order):
    return (len([other for other in others if other in order]), len(others))


def seats_tied(tied, places, others):
    return [seat for seat, place in enumerate(places) if any([other in others for other in tied[place]])]
