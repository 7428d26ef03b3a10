"""Wishes: how an order is to begin and to end."""

from wholesides.errors import NoWish
from wholesides.shapes import are_numbers
from wholesides.steps import fits
from wholesides.wholes import is_pair

NO_WISH = ((), ())


def is_wish(shape, thing):
    """Whether anything at all is a wish for an order of the shape."""
    if not is_pair(thing):
        return False
    beginning, end = thing
    if not isinstance(beginning, tuple) or not isinstance(end, tuple):
        return False
    return are_numbers(shape, beginning + end)


def check_wish(shape, thing):
    """NoWish of anything that is no wish."""
    if not is_wish(shape, thing):
        raise NoWish("this is no wish for an order of the shape")


def is_wished(wish, order):
    """Whether an order begins and ends as wished."""
    beginning, end = wish
    # Counted from the back, an empty end would be the whole order.
    return order[:len(beginning)] == list(beginning) and order[len(order) - len(end):] == list(end)


def allowed(shape, wish, laid):
    """The rising list of the next pieces that the wish allows, whether they fit or not."""
    beginning, end = wish
    lacking = len(shape) - len(laid)
    if lacking == 0:
        return []
    if len(laid) < len(beginning):
        return [beginning[len(laid)]]
    if lacking > len(end):
        return [k for k in range(len(shape)) if k not in laid and k not in end]
    return [end[len(end) - lacking]]


def wished_nexts(shape, wish, laid):
    """The rising list of the pieces that the wish allows next, that aren't laid and fit."""
    # Of sets that no order as wished has on its way, an allowed piece may be laid already.
    return [k for k in allowed(shape, wish, laid) if k not in laid and fits(shape, laid, k)]
