"""One piece comes to those that are laid."""

from wholesides.faces import common, lies_in, sides_of, without
from wholesides.shapes import has, pieces_at


def greatest(found):
    """The list of those of some faces, each told once, that lie in no other one of them."""
    return [face for face in found if not any(face != other and lies_in(face, other) for other in found)]


def shared(shape, laid, k):
    """The rising list of the greatest faces that piece k shares with the laid ones."""
    # Each shared face lies in what the piece has in common with one laid piece.
    return greatest(sorted({common(shape[k], piece) for piece in pieces_at(shape, laid)}))


def fits(shape, laid, k):
    """Whether piece k meets those that are laid along whole sides, or none is laid."""
    sides = sides_of(shape[k])
    return all(face in sides for face in shared(shape, laid, k))


def brings(shape, laid, k):
    """The face that piece k brings anew, None where it doesn't fit."""
    if not fits(shape, laid, k):
        return None
    piece = shape[k]
    pieces = pieces_at(shape, laid)
    return tuple(corner for corner in piece if has(pieces, without(piece, corner)))


def nexts(shape, laid):
    """The rising list of the numbers of the pieces that aren't laid and fit."""
    return [k for k in range(len(shape)) if k not in laid and fits(shape, laid, k)]


def put_to(laid, k):
    """The rising tuple of the laid pieces' numbers and of k: how a set of them is told."""
    return tuple(sorted([*laid, k]))
