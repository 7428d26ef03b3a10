"""Shapes and papers as texts."""

from wholesides.errors import NoText
from wholesides.shapes import is_shape
from wholesides.words import line_shown, lines_in, numbers_in, placed_in


def show_shape(shape):
    """The text of a shape, a line for each piece."""
    return "\n".join([line_shown("piece", piece) for piece in shape])


def read_shape(text):
    """The shape that a text writes; NoText, of anything else."""
    shape = ()
    for place, (word, *rest) in enumerate(lines_in(text)):
        # Where a line is none, what it holds makes no shape either.
        shape = (*shape, tuple(numbers_in(rest)))
        if word != "piece" or not is_shape(shape):
            raise NoText(place)
    return shape


def show_paper(paper):
    """The text of a paper, a line for each row."""
    return "\n".join([line_shown("lay", (k, *brought)) for k, brought in paper])


def read_paper(text):
    """The paper that a text writes, of whatever shape; NoText, of anything else."""
    paper = []
    for place, (word, *rest) in enumerate(lines_in(text)):
        row = placed_in(rest)
        if word != "lay" or row is None:
            raise NoText(place)
        paper.append(row)
    return paper
