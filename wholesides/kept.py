"""A shape that is kept and changed."""

from wholesides.counts import brought_counts, face_counts
from wholesides.errors import NoPiece, NoShape, TooMany
from wholesides.faces import is_face
from wholesides.finds import answer
from wholesides.shapes import MOST_PIECES, is_number
from wholesides.together import parts
from wholesides.tries import how_many


class Kept:
    """The pieces of a shape, none at first."""

    def __init__(self):
        self.pieces = []

    def lay(self, piece):
        """Lays a piece behind all and tells its number; NoPiece, then TooMany."""
        if not is_face(piece) or not piece or piece in self.pieces:
            raise NoPiece("this is no piece, or it stands already")
        if self.pieces and len(piece) != len(self.pieces[0]):
            raise NoPiece("the piece has another size than those that stand")
        if len(self.pieces) == MOST_PIECES:
            raise TooMany("there is no room for one more piece")
        self.pieces.append(piece)
        return len(self.pieces) - 1

    def take(self, k):
        """Takes piece k away and tells it; those behind move up; NoPiece."""
        if not is_number(self.pieces, k):
            raise NoPiece("no piece has this number")
        return self.pieces.pop(k)

    def shape(self):
        """The shape that stands; NoShape where nothing stands."""
        if not self.pieces:
            raise NoShape("nothing stands")
        return tuple(self.pieces)

    def counts(self):
        """The counts of the shape that stands."""
        return face_counts(self.shape())

    def brought(self):
        """The brought counts of the shape that stands."""
        return brought_counts(self.shape())

    def parts(self):
        """The parts of the shape that stands."""
        return parts(self.shape())

    def answer(self, wish):
        """An order's paper, or a bar, of the shape that stands; NoShape, NoWish, TooMany."""
        return answer(self.shape(), wish)

    def how_many(self, wish):
        """How many orders as wished the shape that stands has; NoShape, NoWish, TooMany."""
        return how_many(self.shape(), wish)
