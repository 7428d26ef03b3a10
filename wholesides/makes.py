"""Shapes made of shapes: links, joins, sides, parts."""

from wholesides.errors import NoCorner, NoFace, NoPiece, NoShape, TooMany
from wholesides.faces import MOST_CORNERS, common, rest_of
from wholesides.shapes import MOST_PIECES, all_sides, are_numbers, corners, holders, pieces_at


def link(shape, face):
    """The shape of the pieces that hold the face, without its corners; NoFace of a piece or a foreign face."""
    numbers = holders(shape, face)
    if not numbers or len(face) == len(shape[0]):
        raise NoFace("the shape has no such face less than a piece")
    return tuple(rest_of(piece, face) for piece in pieces_at(shape, numbers))


def join(one, other):
    """The shape of each piece of the first with each of the second; NoCorner, then TooMany."""
    if common(corners(one), corners(other)):
        raise NoCorner("the shapes have a corner in common")
    if len(one) * len(other) > MOST_PIECES:
        raise TooMany("the join has too many pieces")
    if len(one[0]) + len(other[0]) > MOST_CORNERS:
        raise TooMany("the pieces of the join have too many corners")
    return tuple(tuple(sorted(piece + added)) for piece in one for added in other)


def sides(shape):
    """The shape of the sides of its pieces, as they come; NoShape of pieces of one corner, then TooMany."""
    if len(shape[0]) == 1:
        raise NoShape("the side of a corner makes no shape")
    found = all_sides(shape)
    if len(found) > MOST_PIECES:
        raise TooMany("the shape has too many sides")
    return tuple(found)


def part(shape, numbers):
    """The shape of the pieces of these numbers, in the list's order; NoPiece."""
    if not isinstance(numbers, list) or not numbers or not are_numbers(shape, numbers):
        raise NoPiece("these are no numbers of pieces, each once")
    return tuple(pieces_at(shape, numbers))
