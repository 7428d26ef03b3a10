"""Bars: words that there is no order as wished, and the checker that looks at them."""

from wholesides.closed import is_closed
from wholesides.counts import brought_counts
from wholesides.evens import is_even
from wholesides.faces import is_face
from wholesides.makes import link
from wholesides.rows import rows_bar
from wholesides.shapes import are_rising_numbers, has
from wholesides.together import share_side
from wholesides.wholes import is_whole
from wholesides.wishes import NO_WISH, check_wish


def is_number_list(shape, thing):
    """Whether anything at all is a rising list of pieces' numbers, one at least."""
    return isinstance(thing, list) and len(thing) > 0 and are_rising_numbers(shape, thing)


def is_size(shape, thing):
    """Whether anything at all is the size of a face of the shape."""
    return is_whole(thing) and 0 <= thing <= len(shape[0])


def apart_bars(shape, thing):
    """Whether anything at all is a list of some pieces, not all, that share no side with the others."""
    if not is_number_list(shape, thing) or len(thing) == len(shape):
        return False
    others = [piece for k, piece in enumerate(shape) if k not in thing]
    return not any(share_side(shape[k], other) for k in thing for other in others)


def counts_bar(shape, thing):
    """Whether anything at all is a size whose brought count is below 0."""
    return is_size(shape, thing) and brought_counts(shape)[thing] < 0


def unlike_bars(shape, thing):
    """Whether anything at all is a size whose brought count of a closed shape is unlike from the other end."""
    if not is_size(shape, thing) or not is_closed(shape):
        return False
    brought = brought_counts(shape)
    return brought[thing] != brought[len(shape[0]) - thing]


def evens_bar(shape, thing):
    """Whether anything at all is a list of more even sets than an order has room for, none made of those behind it."""
    if not isinstance(thing, list) or not thing or len(thing) <= brought_counts(shape)[-1]:
        return False
    if not all(is_number_list(shape, numbers) and is_even(shape, numbers) for numbers in thing):
        return False
    return not any(numbers[0] in later for place, numbers in enumerate(thing) for later in thing[place + 1:])


CHECKS = {"apart": apart_bars, "counts": counts_bar, "unlike": unlike_bars, "evens": evens_bar}


def link_bars(shape, face, thing):
    """Whether anything at all is a face, not the empty one and less than a piece, and a bar of its link."""
    if not is_face(face) or not 0 < len(face) < len(shape[0]) or not has(shape, face):
        return False
    return is_bar(link(shape, face), NO_WISH, thing)


def is_bar(shape, wish, thing):
    """Whether anything at all is let by as a bar of the shape and a wish."""
    if not isinstance(thing, tuple) or not thing or not isinstance(thing[0], str):
        return False
    word = thing[0]
    if len(thing) == 3:
        return word == "link" and link_bars(shape, thing[1], thing[2])
    if len(thing) != 2:
        return False
    if word == "sets":
        return rows_bar(shape, wish, thing[1])
    if word not in CHECKS:
        return False
    check = CHECKS[word]
    return check(shape, thing[1])


def bars(shape, wish, thing):
    """Whether anything at all is let by as a bar; NoWish ahead of it."""
    check_wish(shape, wish)
    return is_bar(shape, wish, thing)
