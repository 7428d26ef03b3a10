"""Whole numbers, pairs, and what rises."""


def is_whole(thing):
    """Whether anything at all is a whole number."""
    # Python counts truths among its ints.
    return isinstance(thing, int) and not isinstance(thing, bool)


def is_pair(thing):
    """Whether anything at all is a tuple of two things."""
    return isinstance(thing, tuple) and len(thing) == 2


def is_rising(things):
    """Whether each of a list or tuple of numbers is greater than the one ahead of it."""
    return all(low < high for low, high in zip(things, things[1:]))
