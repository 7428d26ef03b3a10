"""Papers carried over: from shapes to their links, joins, sides and first pieces, and from a join back."""

from wholesides.errors import NoPiece
from wholesides.faces import rest_of, without
from wholesides.makes import join, link, part, sides
from wholesides.papers import order_in, paper_of
from wholesides.shapes import holders
from wholesides.wholes import is_whole


def link_paper(shape, paper, face):
    """The paper of the face's link, the holders in the paper's order; refused as the link."""
    # Made only to be refused where it is refused; so are the joins below.
    link(shape, face)
    numbers = holders(shape, face)
    return [(numbers.index(k), rest_of(brought, face)) for k, brought in paper if k in numbers]


def join_paper(one, other, paper, second):
    """The paper of the join by the first's order, then the second's; refused as the join."""
    join(one, other)
    many = len(other)
    return [(j * many + k, tuple(sorted(brought + more))) for j, brought in paper for k, more in second]


def new_sides(piece, brought):
    """The list of tuples of each side that comes with the piece, and what this side brings."""
    left_out = rest_of(piece, brought)
    # Less one of the corners left out ahead, the side lies in the side without that one, which is laid.
    return [(without(piece, corner), tuple(sorted(brought + left_out[:place])))
            for place, corner in enumerate(left_out)]


def sides_paper(shape, paper):
    """The paper of the shape of the sides, piece by piece in the paper's order; refused as the sides."""
    made = sides(shape)
    return [(made.index(side), more) for k, brought in paper for side, more in new_sides(shape[k], brought)]


def first_comings(numbers):
    """The list of the numbers, each where it comes first."""
    # A dict keeps its keys where they came first.
    return list({k: True for k in numbers})


def split_paper(one, other, paper):
    """A tuple of a paper of each, of a paper of their join, by the pieces' first comings; refused as the join."""
    join(one, other)
    order = order_in(paper)
    many = len(other)
    mine = first_comings([k // many for k in order])
    others = first_comings([k % many for k in order])
    return (paper_of(one, mine), paper_of(other, others))


def begun(shape, paper, many):
    """A tuple of the part of the first pieces of the order, many of them, and its paper; NoPiece."""
    if not is_whole(many) or not 1 <= many <= len(shape):
        raise NoPiece("the order has not so many first pieces")
    first = paper[:many]
    return (part(shape, order_in(first)), [(place, brought) for place, (k, brought) in enumerate(first)])
