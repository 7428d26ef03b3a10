"""Even sets of pieces, and pieces brought wholly."""

from wholesides.errors import NoPiece
from wholesides.faces import sides_of
from wholesides.shapes import is_number


def put_together(one, other):
    """The rising list of what is in one of two lists, not in both."""
    return sorted(set(one) ^ set(other))


def odd_sides(shape, numbers):
    """The rising list of the sides that lie in an odd number of these pieces."""
    found = []
    for k in numbers:
        found = put_together(found, sides_of(shape[k]))
    return found


def is_even(shape, numbers):
    """Whether each side of these pieces lies in an even number of them."""
    return not odd_sides(shape, numbers)


def reduced(shape, k, known):
    """The odd sides and the numbers of a set of piece k and of known sets put to it.

    Known is a dict from the first odd side of each known set to its odd sides and its numbers. Each set that is
    put to piece k takes the first odd side away, so the first one rises, until it is no known set's or none is left.
    """
    odd, made = odd_sides(shape, [k]), [k]
    while odd and odd[0] in known:
        other_odd, other_made = known[odd[0]]
        odd, made = put_together(odd, other_odd), put_together(made, other_made)
    return odd, made


def evens_among(shape, numbers):
    """The list of the even sets that each piece makes with those ahead of it that make none."""
    known = {}
    found = []
    for k in numbers:
        odd, made = reduced(shape, k, known)
        if odd:
            known[odd[0]] = (odd, made)
        else:
            found.append(made)
    return found


def even_sets(shape):
    """The list of the even sets of which all are made, each with a first piece that is in no other one."""
    # From the last piece on, the one that makes a set even is its first, and goes into no later set.
    return evens_among(shape, list(range(len(shape)))[::-1])[::-1]


def brought_wholly(shape, paper):
    """The rising list of the pieces that bring themselves."""
    return sorted([k for k, brought in paper if brought == shape[k]])


def even_of(shape, paper, k):
    """The rising list of the even set with piece k and no other one that is brought wholly; NoPiece."""
    wholly = brought_wholly(shape, paper)
    if not is_number(shape, k) or k not in wholly:
        raise NoPiece("this is no piece that is brought wholly")
    # The other pieces make no even set, so the one found is made by piece k.
    others = [j for j in range(len(shape)) if j not in wholly]
    return evens_among(shape, [*others, k])[0]
