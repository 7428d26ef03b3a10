"""Corners called otherwise."""

from wholesides.errors import NoCorner
from wholesides.shapes import corners


def renamed_face(face, names):
    """The face of its corners' new names."""
    return tuple(sorted([names.get(corner, corner) for corner in face]))


def renamed(shape, names):
    """The shape by the new names, its pieces in their places; NoCorner where two corners become one."""
    old = corners(shape)
    if len({names.get(corner, corner) for corner in old}) < len(old):
        raise NoCorner("two corners become one")
    return tuple(renamed_face(piece, names) for piece in shape)


def renamed_paper(paper, names):
    """The paper by the new names."""
    return [(k, renamed_face(brought, names)) for k, brought in paper]


def renamed_cut(cut, names):
    """The cut of a row of sets by the new names, None of None."""
    if cut is None:
        return None
    k, face = cut
    return (k, renamed_face(face, names))


def renamed_bar(bar, names):
    """The bar by the new names."""
    word = bar[0]
    if word == "link":
        return (word, renamed_face(bar[1], names), renamed_bar(bar[2], names))
    if word == "sets":
        return (word, [(laid, renamed_cut(cut, names)) for laid, cut in bar[1]])
    # Only numbers are in the others; their lists are copied, for what is told is the asker's own.
    if word == "evens":
        return (word, [list(numbers) for numbers in bar[1]])
    return (word, list(bar[1])) if word == "apart" else (word, bar[1])
