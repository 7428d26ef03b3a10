"""Shapes that shrink: faces taken away by twos."""

from wholesides.errors import NoPiece, NoShrink
from wholesides.evens import brought_wholly
from wholesides.faces import by_size, faces_in, lies_in, rest_of
from wholesides.shapes import are_numbers, faces, pieces_at


def is_free(kept, small, greater):
    """Whether the greater face is the one kept that holds the small one, besides itself, and has one corner more.

    Kept are, with each face, all that lie in it. So where a face holds the small one, so does one with just one
    corner more than that; and where there is such a one, the small one is kept too.
    """
    above = [face for face in kept if len(face) == len(small) + 1 and lies_in(small, face)]
    return small != () and above == [greater]


def left(shape, taken, rows):
    """The list of the faces left behind pieces and rows taken away; NoPiece, then NoShrink at the first wrong row."""
    if not are_numbers(shape, taken):
        raise NoPiece("these are no numbers of pieces, each once")
    gone = pieces_at(shape, taken)
    kept = {face: True for face in faces(shape) if face not in gone}
    for place, (small, greater) in enumerate(rows):
        if not is_free(kept, small, greater):
            raise NoShrink(place)
        del kept[small], kept[greater]
    return by_size(list(kept))


def twos_of(piece, brought):
    """The list of rows that take away what a piece brings anew, but its first corner and the empty face."""
    corner, *others = rest_of(piece, brought)
    lesser = [tuple(sorted(brought + some)) for some in faces_in(tuple(others))]
    # The greatest go first: then only the one with the corner put to it holds the small one.
    return [(small, tuple(sorted((*small, corner)))) for small in lesser[::-1] if small]


def shrinking(shape, paper):
    """A tuple of the pieces brought wholly and of rows by which the shape shrinks to one corner."""
    taken = brought_wholly(shape, paper)
    rows = []
    for k, brought in paper[::-1]:
        # The faces that hold what the last piece brings lie in no piece ahead of it.
        if k not in taken:
            rows.extend(twos_of(shape[k], brought))
    return (taken, rows)
