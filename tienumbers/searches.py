"""Papers: what shows that no steps numbering of a web begins with certain numbers."""

from tienumbers.counting import check_begun, check_few_ties, goes_on
from tienumbers.steps import step_bar, step_bar_holds
from tienumbers.wholes import whole_within


def paper_holds(web, begun, thing):
    check_begun(web, begun)
    return holds_for(web, begun, thing)


def holds_for(web, begun, thing):
    if not isinstance(thing, tuple) or len(thing) < 2:
        return False
    word = thing[0]
    if word == "clash":
        return clash_holds(web, begun, thing[1:])
    if len(thing) > 2:
        return False
    if word == "bar":
        return step_bar_holds(web, thing[1])
    return word == "cases" and cases_hold(web, begun, thing[1])


def clash_holds(web, begun, things):
    if len(things) != 2 or not all([whole_within(thing, 0, len(web[1]) - 1) for thing in things]):
        return False
    step = step_begun(web, begun, things[0])
    return things[0] < things[1] and step is not None and step == step_begun(web, begun, things[1])


def step_begun(web, begun, number):
    tie = web[1][number]
    # The greater end comes second, so the first is among the first places where this one is.
    if tie[1] >= len(begun):
        return None
    return abs(begun[tie[0]] - begun[tie[1]])


def cases_hold(web, begun, thing):
    if len(begun) == web[0] or not isinstance(thing, tuple) or len(thing) != len(web[1]) + 1:
        return False
    for number, paper in enumerate(thing):
        if not case_holds(web, begun, number, paper):
            return False
    return True


def case_holds(web, begun, number, thing):
    if number in begun:
        return thing is None
    return holds_for(web, begun + (number,), thing)


def paper_for(web, begun):
    check_few_ties(web)
    check_begun(web, begun)
    bar = step_bar(web)
    if bar is not None:
        return ("bar", bar)
    if goes_on(web, begun) > 0:
        return None
    return paper_made(web, begun)


def paper_made(web, begun):
    clash = clash_in(web, begun)
    if clash is not None:
        return clash
    papers = [None if number in begun else paper_made(web, begun + (number,)) for number in range(len(web[1]) + 1)]
    return ("cases", tuple(papers))


def clash_in(web, begun):
    seen = {}
    for number in range(len(web[1])):
        step = step_begun(web, begun, number)
        if step in seen:
            return ("clash", seen[step], number)
        if step is not None:
            seen[step] = number
    return None
