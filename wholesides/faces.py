"""Corners and faces."""

from wholesides.wholes import is_rising, is_whole

MOST_CORNERS = 6
# The least number of thirty-one figures.
CORNER_BOUND = 10 ** 30


def is_corner(thing):
    """Whether anything at all is a corner."""
    return is_whole(thing) and -CORNER_BOUND < thing < CORNER_BOUND


def is_face(thing):
    """Whether anything at all is a face."""
    if not isinstance(thing, tuple) or len(thing) > MOST_CORNERS:
        return False
    # Only numbers can be compared, so this is asked first.
    return all(is_corner(corner) for corner in thing) and is_rising(thing)


def lies_in(face, other):
    """Whether the other face holds the first."""
    return all(corner in other for corner in face)


def rest_of(face, other):
    """The face of those of its corners that the other hasn't."""
    return tuple(corner for corner in face if corner not in other)


def without(face, corner):
    """The face of all its corners but this one."""
    return rest_of(face, (corner,))


def common(face, other):
    """The greatest face that lies in both."""
    return tuple(corner for corner in face if corner in other)


def by_size(found):
    """The list of these faces, by size, then rising."""
    return sorted(found, key=lambda face: (len(face), face))


def faces_in(face):
    """The list of the faces that lie in it, itself too, by size, then rising."""
    found = [()]
    for corner in face:
        found = found + [smaller + (corner,) for smaller in found]
    return by_size(found)


def sides_of(face):
    """The list of its sides, by the corner left out, rising."""
    return [without(face, corner) for corner in face]
