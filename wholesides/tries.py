"""Orders as wished, sought by tries."""

from wholesides.errors import TooMany
from wholesides.steps import put_to
from wholesides.wishes import check_wish, wished_nexts

MOST_TRIED = 12


def check_tried(shape, wish):
    """NoWish of anything that is no wish, then TooMany of more pieces than are tried."""
    check_wish(shape, wish)
    if len(shape) > MOST_TRIED:
        raise TooMany("the shape has too many pieces for tries")


def ways_on(shape, wish, laid, known):
    """How many ways lead on to an order as wished from a set of laid pieces, told by a rising tuple.

    What is found of a set is written into known: many orders come by the same set.
    """
    if len(laid) == len(shape):
        return 1
    if laid not in known:
        steps = [put_to(laid, k) for k in wished_nexts(shape, wish, laid)]
        known[laid] = sum([ways_on(shape, wish, more, known) for more in steps])
    return known[laid]


def first_ones(shape, wish, begun, most, known):
    """The rising list of the first orders as wished, most of them, that begin with the list begun."""
    if len(begun) == len(shape):
        return [begun]
    found = []
    for k in wished_nexts(shape, wish, begun):
        # No step is taken from which no order comes: there may be far too many of these.
        if len(found) < most and ways_on(shape, wish, put_to(begun, k), known) > 0:
            found = found + first_ones(shape, wish, [*begun, k], most - len(found), known)
    return found


def some_orders(shape, wish, most):
    """The rising list of the first orders as wished, most of them, all where they are fewer."""
    check_tried(shape, wish)
    return first_ones(shape, wish, [], most, {})


def first_order(shape, wish):
    """The first order as wished, None where there is none."""
    found = some_orders(shape, wish, 1)
    return found[0] if found else None


def how_many(shape, wish):
    """How many orders as wished there are."""
    check_tried(shape, wish)
    return ways_on(shape, wish, (), {})
