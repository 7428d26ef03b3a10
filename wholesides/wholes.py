"""Whole numbers, and what rises."""


def is_whole(thing):
    """Whether anything at all is a whole number."""
    # Python counts truths among its ints.
    return isinstance(thing, int) and not isinstance(thing, bool)


def is_rising(things):
    """Whether each of a list or tuple of numbers is greater than the one ahead of it."""
    return all(low < high for low, high in zip(things, things[1:]))
