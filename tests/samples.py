"""Things, shapes and slow, plain reckonings that the tests share."""

import itertools
import random

FIGURES_30 = 10 ** 30 - 1
FIGURES_31 = 10 ** 30
FIGURES_60 = 10 ** 60 - 1


def nested(wrap, core, depth=30):
    thing = core
    for _ in range(depth):
        thing = wrap(thing)
    return thing


# Things that are neither a corner, nor a face, nor a shape, nor an order, nor a paper.
NOTHINGS = [
    None, True, False, "", "0", "corner", "(1, 2)", "piece 1 2\n", "~" * 10000,
    FIGURES_31, -FIGURES_31, FIGURES_60, -FIGURES_60,
    {}, {0: 1}, {"a": [1]}, {(): ()}, {0: (0, ())},
    [None], [True], [False], [""], [[]], [{}], [()], [[[0]]], [None, 0], ["a", 1],
    (None,), (True,), (False, True), ("",), ([],), ({},), ([0], [1]), ("a", 1), (None, 0),
    (0, None), ((),) * 2, ((), (0,)), ((True,),), (((0,),),), (((),),),
    (FIGURES_31,), (-FIGURES_31,), (1, FIGURES_31), ((FIGURES_31,),),
    list(range(300)), tuple(range(300)), [0] * 300, (0,) * 300, {k: k for k in range(300)},
    nested(lambda thing: [thing], 0), nested(lambda thing: (thing,), 0),
    nested(lambda thing: (thing,), ()), nested(lambda thing: {0: thing}, None),
    nested(lambda thing: [thing, (thing,)], True, 10), nested(lambda thing: (0, thing), "a"),
]


def subsets(face):
    """All faces in a face, reckoned size by size."""
    return [some for size in range(len(face) + 1) for some in itertools.combinations(face, size)]


def first_combinations(names, size, many):
    return tuple(itertools.islice(itertools.combinations(names, size), many))


def random_shape(seed):
    dice = random.Random(seed)
    size = dice.randint(1, 6)
    names = sorted(dice.sample(range(-9, 10), dice.randint(size, size + 3)))
    choice = list(itertools.combinations(names, size))
    dice.shuffle(choice)
    return tuple(choice[:dice.randint(1, 8)])


DOT = ((7,),)
DOTS = ((3,), (-1,), (0,), (8,))
STICK = ((0, 1),)
ROW = ((0, 1), (1, 2), (2, 3), (3, 4))
RING = ((0, 1), (1, 2), (2, 3), (0, 3))
TRIANGLE_RIM = ((0, 1), (0, 2), (1, 2))
STICKS_APART = ((0, 1), (2, 3))
TWO = ((0, 1, 2), (1, 2, 3))
# Two triangles that meet at a lone corner.
BOW = ((0, 1, 2), (2, 3, 4))
# The same, with a triangle that meets both along a side.
FAN = ((0, 1, 2), (2, 3, 4), (1, 2, 3))
TRIANGLES_APART = ((0, 1, 2), (3, 4, 5))
# A triangle that meets another along a side, and by its third corner a further one.
PINCHED = ((0, 1, 2), (0, 1, 3), (2, 3, 4), (0, 2, 3))
SOLID_RIM = ((0, 1, 2), (0, 1, 3), (0, 2, 3), (1, 2, 3))
EIGHT = tuple(tuple(sorted((a, b, c))) for a in (0, 5) for b in (1, 4) for c in (2, 3))
SIX_RIM = tuple(itertools.combinations(range(6), 5))
SEVEN_RIM = tuple(itertools.combinations(range(7), 6))
NAMES = ((-FIGURES_30, 0, FIGURES_30), (-FIGURES_30, 0, 5), (-3, 5, FIGURES_30))
FORTY_DOTS = tuple((k,) for k in range(40))
FORTY_ROW = tuple((k, k + 1) for k in range(40))
FORTY_SIXES = first_combinations(range(-2, 7), 6, 40)
FORTY_SIX_APART = tuple(tuple(range(6 * k, 6 * k + 6)) for k in range(40))

SMALL = [
    DOT, DOTS, STICK, ROW, RING, TRIANGLE_RIM, STICKS_APART, TWO, BOW, FAN, TRIANGLES_APART,
    PINCHED, SOLID_RIM, SIX_RIM, NAMES,
]
RANDOM = [random_shape(seed) for seed in range(60)]
FORTIES = [FORTY_DOTS, FORTY_ROW, FORTY_SIXES, FORTY_SIX_APART]
SHAPES = SMALL + [EIGHT, SEVEN_RIM] + RANDOM + FORTIES


def plain_has(pieces, face):
    return any(set(face) <= set(piece) for piece in pieces)


def plain_shared(shape, laid, k):
    """The greatest shared faces, straight as point 7 says them."""
    pieces = [shape[j] for j in laid]
    held = [face for face in subsets(shape[k]) if plain_has(pieces, face)]
    return sorted(face for face in held if not any(set(face) < set(more) for more in held))


def plain_fits(shape, laid, k):
    sides = list(itertools.combinations(shape[k], len(shape[k]) - 1))
    return not laid or all(face in sides for face in plain_shared(shape, laid, k))


def plain_brings(shape, laid, k):
    """The corners without which the rest lies in a laid piece."""
    pieces = [shape[j] for j in laid]
    piece = set(shape[k])
    return tuple(sorted(c for c in piece if plain_has(pieces, piece - {c})))


def plain_fault_of(shape, order):
    for place in range(len(order)):
        if not plain_fits(shape, order[:place], order[place]):
            return place
    return None


def all_orders(shape):
    numbers = itertools.permutations(range(len(shape)))
    return [list(some) for some in numbers if plain_fault_of(shape, list(some)) is None]


def an_order(shape):
    """Some order of a shape, found by laying what fits; None where this gets stuck."""
    laid = []
    while len(laid) < len(shape):
        free = [k for k in range(len(shape)) if k not in laid and plain_fits(shape, laid, k)]
        if not free:
            return None
        laid.append(free[-1])
    return laid
