"""Whole numbers told from whatever else may be handed in."""


def is_whole(thing):
    # Python counts truths among the ints; here they are no numbers.
    return isinstance(thing, int) and not isinstance(thing, bool)


def whole_within(thing, least, most):
    return is_whole(thing) and least <= thing <= most


def unlike_within(things, least, most):
    # Whether they are whole numbers is asked first, as a set can't hold whatever may be handed in.
    return all([whole_within(thing, least, most) for thing in things]) and len(set(things)) == len(things)


def each_once(things, most):
    return len(things) == most and unlike_within(things, 1, most)
