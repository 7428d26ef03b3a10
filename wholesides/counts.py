"""How many faces of each size a shape has, and how many its pieces bring."""

from wholesides.shapes import faces


def choices(many, taken):
    """How many choices of so many taken there are out of many."""
    ways = 1
    for step in range(taken):
        # The product behind each step is a number of choices itself: nothing is cut off.
        ways = ways * (many - step) // (step + 1)
    return ways


def count_for(brought, k):
    """The count for k, of all brought counts."""
    n = len(brought) - 1
    return sum(brought[i] * choices(n - i, k - i) for i in range(k + 1))


def brought_for(counts, k):
    """The brought count for k, of all counts."""
    n = len(counts) - 1
    total = 0
    for i in range(k + 1):
        term = counts[i] * choices(n - i, k - i)
        total += term if (k - i) % 2 == 0 else -term
    return total


def counts_from(brought):
    """The list of the counts, of a list of the brought ones."""
    return [count_for(brought, k) for k in range(len(brought))]


def brought_from(counts):
    """The list of the brought counts, of a list of the counts."""
    return [brought_for(counts, k) for k in range(len(counts))]


def face_counts(shape):
    """The list of how many faces of each size the shape has."""
    sizes = [len(face) for face in faces(shape)]
    return [sizes.count(k) for k in range(len(shape[0]) + 1)]


def brought_counts(shape):
    """The list of the shape's brought counts; some may be below 0."""
    return brought_from(face_counts(shape))
