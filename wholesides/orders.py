"""Orders of a shape's pieces."""

from wholesides.steps import fits
from wholesides.wholes import is_whole


def numbers_all(shape, thing):
    """Whether anything at all is a list of the numbers of all pieces, each once."""
    # Truths are equal to numbers, so sorting alone would let them by.
    if not isinstance(thing, list) or not all(is_whole(k) for k in thing):
        return False
    return sorted(thing) == list(range(len(shape)))


def fault_of(shape, order):
    """The place of the first piece that doesn't fit behind those ahead of it, None where each fits."""
    for place, k in enumerate(order):
        if not fits(shape, order[:place], k):
            return place
    return None


def is_order(shape, thing):
    """Whether anything at all is an order of the shape."""
    return numbers_all(shape, thing) and fault_of(shape, thing) is None
