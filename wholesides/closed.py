"""Closed shapes, rims, and orders turned about."""

from wholesides.errors import NoShape, NotClosed, TooMany
from wholesides.faces import rest_of
from wholesides.shapes import MOST_PIECES, all_sides, holders


def is_closed(shape):
    """Whether each side of its pieces lies in just two of them."""
    return all(len(holders(shape, side)) == 2 for side in all_sides(shape))


def at_most_two(shape):
    """Whether each side of its pieces lies in at most two of them."""
    return all(len(holders(shape, side)) <= 2 for side in all_sides(shape))


def rim(shape):
    """The shape of the sides that lie in one piece alone, None without any; NoShape, then TooMany."""
    if len(shape[0]) == 1:
        raise NoShape("the side of a corner makes no shape")
    found = [side for side in all_sides(shape) if len(holders(shape, side)) == 1]
    if len(found) > MOST_PIECES:
        raise TooMany("the rim has too many pieces")
    return tuple(found) if found else None


def turned(shape, paper):
    """The paper of the order turned about; NotClosed."""
    if not is_closed(shape):
        raise NotClosed("the shape is not closed")
    return [(k, rest_of(shape[k], brought)) for k, brought in paper[::-1]]
