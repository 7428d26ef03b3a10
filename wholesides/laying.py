"""Pieces laid one by one, as a wish allows."""

from wholesides.errors import NoFit
from wholesides.shapes import is_number
from wholesides.steps import brings
from wholesides.tries import check_tried, ways_on
from wholesides.wishes import check_wish, wished_nexts


class Laying:
    """The pieces of a shape, of which some are laid; NoWish of anything that is no wish."""

    def __init__(self, shape, wish):
        check_wish(shape, wish)
        self.pieces = shape
        self.wish = wish
        self.numbers = []
        # What the tries found of a set of laid pieces holds as well when it is laid again.
        self.known = {}

    def lay(self, k):
        """Lays piece k and tells what it brings; NoFit."""
        if not is_number(self.pieces, k) or k not in self.can():
            raise NoFit("this piece can't come next")
        brought = brings(self.pieces, self.numbers, k)
        self.numbers.append(k)
        return brought

    def back(self):
        """Takes back the last piece laid and tells its number; NoFit."""
        if not self.numbers:
            raise NoFit("no piece is laid")
        return self.numbers.pop()

    def laid(self):
        """The list of the numbers of the pieces, as laid."""
        return list(self.numbers)

    def can(self):
        """The rising list of the pieces that may be laid."""
        return wished_nexts(self.pieces, self.wish, self.numbers)

    def live(self):
        """Whether an order as wished begins with what is laid; TooMany."""
        check_tried(self.pieces, self.wish)
        return ways_on(self.pieces, self.wish, tuple(sorted(self.numbers)), self.known) > 0
