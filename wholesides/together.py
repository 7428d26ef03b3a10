"""Which pieces hold together along sides."""

from wholesides.faces import common


def share_side(piece, other):
    """Whether two unlike pieces of one size have a side in common."""
    return len(common(piece, other)) == len(piece) - 1


def part_of(shape, k):
    """The rising list of the pieces to which one comes from piece k, itself too."""
    found = [k]
    place = 0
    while place < len(found):
        piece = shape[found[place]]
        found = found + [j for j, other in enumerate(shape) if j not in found and share_side(piece, other)]
        place += 1
    return sorted(found)


def parts(shape):
    """The list of the shape's parts, rising lists, by their first numbers."""
    found = []
    for k in range(len(shape)):
        if not any(k in numbers for numbers in found):
            found.append(part_of(shape, k))
    return found


def holds_together(shape):
    """Whether one comes from each piece to each other one along sides."""
    return len(part_of(shape, 0)) == len(shape)
