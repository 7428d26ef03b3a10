"""Shapes and their faces."""

from wholesides.errors import NoShape
from wholesides.faces import by_size, faces_in, is_corner, is_face, lies_in, sides_of
from wholesides.wholes import is_rising, is_whole

MOST_PIECES = 40


def is_shape(thing):
    """Whether anything at all is a shape."""
    if not isinstance(thing, tuple) or not 1 <= len(thing) <= MOST_PIECES:
        return False
    if not all(is_face(piece) for piece in thing):
        return False
    size = len(thing[0])
    if size == 0 or not all(len(piece) == size for piece in thing):
        return False
    return len(set(thing)) == len(thing)


def is_corner_list(thing):
    """Whether anything at all is a list of corners, in any order."""
    return isinstance(thing, list) and all(is_corner(corner) for corner in thing)


def shape_of(pieces):
    """The shape of a list of lists of corners, in any order; NoShape of anything else."""
    if not isinstance(pieces, list):
        raise NoShape("the pieces are no list")
    if not all(is_corner_list(piece) for piece in pieces):
        raise NoShape("a piece is no list of corners")
    # A corner twice in a list stays twice, so that is_shape refuses it.
    shape = tuple(tuple(sorted(piece)) for piece in pieces)
    if not is_shape(shape):
        raise NoShape("the pieces make no shape")
    return shape


def corners(shape):
    """The rising list of its corners."""
    return sorted({corner for piece in shape for corner in piece})


def faces(shape):
    """The list of its faces, by size, then rising."""
    return by_size(sorted({face for piece in shape for face in faces_in(piece)}))


def all_sides(shape):
    """The list of the sides of its pieces, as they come, each once."""
    # A dict keeps the order in which its keys came.
    return list({side: True for piece in shape for side in sides_of(piece)})


def has(shape, face):
    """Whether the face lies in one of these pieces."""
    return any(lies_in(face, piece) for piece in shape)


def holders(shape, face):
    """The rising list of the numbers of the pieces that hold the face."""
    return [k for k, piece in enumerate(shape) if lies_in(face, piece)]


def pieces_at(shape, numbers):
    """The list of the pieces of these numbers, in the list's order."""
    return [shape[k] for k in numbers]


def is_number(shape, thing):
    """Whether anything at all is the number of a piece."""
    return is_whole(thing) and 0 <= thing < len(shape)


def are_numbers(shape, things):
    """Whether the things of a list or tuple are numbers of pieces, none twice."""
    return all(is_number(shape, thing) for thing in things) and len(set(things)) == len(things)


def are_rising_numbers(shape, things):
    """Whether the things of a list or tuple are numbers of pieces, rising."""
    return all(is_number(shape, thing) for thing in things) and is_rising(things)
