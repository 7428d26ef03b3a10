"""Papers of orders, and the checker that looks at them."""

from wholesides.errors import NoFace, NoOrder
from wholesides.faces import is_face, lies_in, without
from wholesides.shapes import has, is_number, pieces_at
from wholesides.steps import brings
from wholesides.wholes import is_pair, is_whole


def paper_of(shape, order):
    """The paper of an order; NoOrder at the first place whose piece doesn't fit."""
    paper = []
    for place, k in enumerate(order):
        brought = brings(shape, order[:place], k)
        if brought is None:
            raise NoOrder(place)
        paper.append((k, brought))
    return paper


def order_in(paper):
    """The list of the numbers in the rows."""
    return [k for k, brought in paper]


def is_right(shape, ahead, row):
    """Whether a row is right behind the right rows ahead of it."""
    k, face = row
    numbers = order_in(ahead)
    if not is_number(shape, k) or k in numbers:
        return False
    piece = shape[k]
    laid = pieces_at(shape, numbers)
    if not lies_in(face, piece) or has(laid, face):
        return False
    return all(has(laid, without(piece, corner)) for corner in face)


def fault(shape, rows):
    """The number of the first row that isn't right, of all rows where some lack, None where it is let by."""
    for place, row in enumerate(rows):
        if not is_right(shape, rows[:place], row):
            return place
    # Right rows have unlike pieces, so as many rows as pieces are one for each.
    return None if len(rows) == len(shape) else len(rows)


def is_row(thing):
    """Whether anything at all is a tuple of a whole number and a face."""
    return is_pair(thing) and is_whole(thing[0]) and is_face(thing[1])


def lets_by(shape, thing):
    """Whether anything at all is let by as a paper of an order of the shape."""
    if not isinstance(thing, list) or not all(is_row(row) for row in thing):
        return False
    return fault(shape, thing) is None


def bringer(shape, paper, face):
    """The number of the piece that brings the face; NoFace where the shape hasn't it."""
    # By a paper let by, each face of the shape is found in just one row.
    for k, brought in paper:
        if lies_in(face, shape[k]) and lies_in(brought, face):
            return k
    raise NoFace("the shape has no such face")
