"""Rows of sets: that there is no order as wished, set of laid pieces by set."""

from wholesides.faces import is_face, lies_in, sides_of
from wholesides.shapes import are_rising_numbers, has, holders, is_number, pieces_at
from wholesides.steps import put_to
from wholesides.wholes import is_pair
from wholesides.wishes import wished_nexts


def is_laid(shape, thing):
    """Whether anything at all is a rising tuple of pieces' numbers, not of all."""
    return isinstance(thing, tuple) and len(thing) < len(shape) and are_rising_numbers(shape, thing)


def is_cut(shape, laid, thing):
    """Whether anything at all is a piece that isn't laid, and a face by which it never fits behind the laid ones."""
    if not is_pair(thing):
        return False
    k, face = thing
    if not is_number(shape, k) or k in laid or not is_face(face):
        return False
    if not lies_in(face, shape[k]) or not has(pieces_at(shape, laid), face):
        return False
    return all(holders(shape, side) == [k] for side in sides_of(shape[k]) if lies_in(face, side))


def is_set_row(shape, thing):
    """Whether anything at all is a set of laid pieces with a right cut, or with None."""
    if not is_pair(thing):
        return False
    laid, cut = thing
    return is_laid(shape, laid) and (cut is None or is_cut(shape, laid, cut))


def stays_in(shape, wish, laid, known):
    """Whether each step on from a set of laid pieces leads to a known set."""
    return all(put_to(laid, k) in known for k in wished_nexts(shape, wish, laid))


def rows_bar(shape, wish, thing):
    """Whether anything at all is a list of right rows of sets, so that no order is as wished."""
    if not isinstance(thing, list) or not all(is_set_row(shape, row) for row in thing):
        return False
    known = {laid: True for laid, cut in thing}
    if len(known) < len(thing) or () not in known:
        return False
    return all(cut is not None or stays_in(shape, wish, laid, known) for laid, cut in thing)
