"""Total numberings: places and ties numbered so that each tie and its ends come to one total; and what bars them."""

from tienumbers.bars import bar_formed, share_bars
from tienumbers.errors import NoKind, NoNumber
from tienumbers.kinds import web_for
from tienumbers.making import parted_for
from tienumbers.steps import upper_turned
from tienumbers.webs import tie_counts
from tienumbers.wholes import each_once

TOTAL_FORMS = (("share", 1), ("ties", 0))


def total_good(web, thing):
    if not isinstance(thing, tuple) or len(thing) != 2:
        return False
    places = thing[0]
    ties = thing[1]
    if not isinstance(places, tuple) or not isinstance(ties, tuple) or len(places) != web[0]:
        return False
    return each_once(places + ties, web[0] + len(web[1])) and len(set(totals_by(web, thing))) == 1


def totals_by(web, numbering):
    return [end + tie for end, tie in zip(end_sums(web, numbering[0]), numbering[1])]


def end_sums(web, numbers):
    return [numbers[a] + numbers[b] for a, b in web[1]]


def low_good(web, thing):
    return total_good(web, thing) and max(thing[0]) == web[0]


def total_of(web, thing):
    check_total(web, thing)
    return totals_by(web, thing)[0]


def check_total(web, thing):
    if not total_good(web, thing):
        raise NoNumber()


def opposite_total(web, thing):
    check_total(web, thing)
    return tuple([taken_from(web[0] + len(web[1]) + 1, numbers) for numbers in thing])


def taken_from(whole, numbers):
    return tuple([whole - number for number in numbers])


def low_by(web, numbers):
    if not isinstance(numbers, tuple) or not each_once(numbers, web[0]):
        raise NoNumber()
    sums = end_sums(web, numbers)
    q = len(sums)
    least = min(sums)
    if sorted(sums) != list(range(least, least + q)):
        return None
    return filled_to(web, numbers, least + web[0] + q)


def filled_to(web, numbers, total):
    return (numbers, taken_from(total, end_sums(web, numbers)))


def low_opposite(web, thing):
    if not low_good(web, thing):
        raise NoNumber()
    return low_by(web, taken_from(web[0] + 1, thing[0]))


def total_span(web):
    # The worth is least where the numbers fall while how often they are taken rises, greatest where both rise.
    often = list(tie_counts(web)) + [1 for tie in web[1]]
    least = worth_in_order(sorted(often, reverse=True))
    most = worth_in_order(sorted(often))
    q = len(web[1])
    return ((least + q - 1) // q, most // q)


def worth_in_order(often):
    return sum([times * (k + 1) for k, times in enumerate(often)])


def total_bar_holds(web, thing):
    if not bar_formed(TOTAL_FORMS, thing):
        return False
    if thing[0] == "ties":
        return len(web[1]) > 2 * web[0] - 3
    return share_bars_totals(web, thing[1])


def share_bars_totals(web, share):
    numbers = web[0] + len(web[1])
    if share < 2 or len(web[1]) % share != 0 or numbers * (numbers + 1) // 2 % share == 0:
        return False
    return all([(count - 1) % share == 0 for count in tie_counts(web)])


def total_bars(web):
    return [bar for bar in share_bars(len(web[1])) + [("ties",)] if total_bar_holds(web, bar)]


def total_for(kind):
    web = web_for(kind)
    if kind[0] == "sides":
        return sides_total(web, kind[1], kind[2])
    if kind[0] == "spine" and web[1]:
        return low_by(web, tuple([number + 1 for number in upper_turned(web, parted_for(kind))]))
    if kind[0] == "ring" and kind[1] % 2 == 1:
        return low_by(web, ring_low(kind[1]))
    raise NoKind()


def sides_total(web, m, n):
    # The ends' sums are all numbers above n that n + 1 doesn't divide, and taken from the total they are so again.
    places = [(n + 1) * (k + 1) for k in range(m)] + list(range(1, n + 1))
    return filled_to(web, tuple(places), (m + 2) * (n + 1))


def ring_low(n):
    # Every second place has the next number, twice round the ring, so that sums of neighbours rise by one.
    half = (n + 1) // 2
    return tuple([place // 2 + 1 if place % 2 == 0 else half + place // 2 + 1 for place in range(n)])
