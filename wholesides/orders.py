"""Orders of a shape's pieces."""

from wholesides.shapes import are_numbers
from wholesides.steps import fits


def numbers_all(shape, thing):
    """Whether anything at all is a list of the numbers of all pieces, each once."""
    return isinstance(thing, list) and len(thing) == len(shape) and are_numbers(shape, thing)


def fault_of(shape, order):
    """The place of the first piece that doesn't fit behind those ahead of it, None where each fits."""
    for place, k in enumerate(order):
        if not fits(shape, order[:place], k):
            return place
    return None


def is_order(shape, thing):
    """Whether anything at all is an order of the shape."""
    return numbers_all(shape, thing) and fault_of(shape, thing) is None
