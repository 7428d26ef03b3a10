"""Bars that are found, and the answer: an order as wished, or why there is none."""

from wholesides.closed import is_closed
from wholesides.counts import brought_counts
from wholesides.evens import even_sets
from wholesides.makes import link
from wholesides.papers import paper_of
from wholesides.shapes import faces
from wholesides.together import parts
from wholesides.tries import check_tried, first_ones, ways_on


def counted_bar(shape):
    """A bar by the brought counts, None without any."""
    brought = brought_counts(shape)
    sizes = list(range(len(brought)))
    below = [k for k in sizes if brought[k] < 0]
    if below:
        return ("counts", below[0])
    unlike = [k for k in sizes if brought[k] != brought[len(shape[0]) - k]]
    if unlike and is_closed(shape):
        return ("unlike", unlike[0])
    found = even_sets(shape)
    # None is below 0 here, so that more than the last are one at least.
    return ("evens", found) if len(found) > brought[-1] else None


def plain_bar(shape):
    """A bar of the shape itself, without links and sets, None without any."""
    found = parts(shape)
    return ("apart", found[0]) if len(found) > 1 else counted_bar(shape)


def cheap_bar(shape):
    """A bar without sets, None where neither the shape nor any of its links has one."""
    for face in faces(shape):
        if len(face) < len(shape[0]):
            bar = plain_bar(link(shape, face))
            if bar is not None:
                # The link of the empty face is the shape.
                return ("link", face, bar) if face else bar
    return None


def answer(shape, wish):
    """The paper of the first order as wished, or a bar; NoWish, then TooMany."""
    check_tried(shape, wish)
    known = {}
    if ways_on(shape, wish, (), known) > 0:
        order = first_ones(shape, wish, [], 1, known)[0]
        return ("order", paper_of(shape, order))
    bar = cheap_bar(shape)
    # Without a way on, the tries have come to each set that can be laid, and to no other one.
    return ("none", bar if bar is not None else ("sets", [(laid, None) for laid in sorted(known)]))
