"""Things, shapes and slow, plain reckonings that the tests share."""

import functools
import itertools
import random

FIGURES_30 = 10 ** 30 - 1
FIGURES_31 = 10 ** 30
FIGURES_60 = 10 ** 60 - 1


def nested(wrap, core, depth=30):
    thing = core
    for _ in range(depth):
        thing = wrap(thing)
    return thing


# Things that are neither a corner, nor a face, nor a shape, nor an order, nor a paper.
NOTHINGS = [
    None, True, False, "", "0", "corner", "(1, 2)", "piece 1 2\n", "~" * 10000,
    FIGURES_31, -FIGURES_31, FIGURES_60, -FIGURES_60,
    {}, {0: 1}, {"a": [1]}, {(): ()}, {0: (0, ())},
    [None], [True], [False], [""], [[]], [{}], [()], [[[0]]], [None, 0], ["a", 1],
    (None,), (True,), (False, True), ("",), ([],), ({},), ([0], [1]), ("a", 1), (None, 0),
    (0, None), ((),) * 2, ((), (0,)), ((True,),), (((0,),),), (((),),),
    (FIGURES_31,), (-FIGURES_31,), (1, FIGURES_31), ((FIGURES_31,),),
    list(range(300)), tuple(range(300)), [0] * 300, (0,) * 300, {k: k for k in range(300)},
    nested(lambda thing: [thing], 0), nested(lambda thing: (thing,), 0),
    nested(lambda thing: (thing,), ()), nested(lambda thing: {0: thing}, None),
    nested(lambda thing: [thing, (thing,)], True, 10), nested(lambda thing: (0, thing), "a"),
]


def subsets(face):
    """All faces in a face, reckoned size by size."""
    return [some for size in range(len(face) + 1) for some in itertools.combinations(face, size)]


def first_combinations(names, size, many):
    return tuple(itertools.islice(itertools.combinations(names, size), many))


def random_shape(seed):
    dice = random.Random(seed)
    size = dice.randint(1, 6)
    names = sorted(dice.sample(range(-9, 10), dice.randint(size, size + 3)))
    choice = list(itertools.combinations(names, size))
    dice.shuffle(choice)
    return tuple(choice[:dice.randint(1, 8)])


DOT = ((7,),)
DOTS = ((3,), (-1,), (0,), (8,))
STICK = ((0, 1),)
ROW = ((0, 1), (1, 2), (2, 3), (3, 4))
RING = ((0, 1), (1, 2), (2, 3), (0, 3))
TRIANGLE_RIM = ((0, 1), (0, 2), (1, 2))
STICKS_APART = ((0, 1), (2, 3))
TWO = ((0, 1, 2), (1, 2, 3))
# Two triangles that meet at a lone corner.
BOW = ((0, 1, 2), (2, 3, 4))
# The same, with a triangle that meets both along a side.
FAN = ((0, 1, 2), (2, 3, 4), (1, 2, 3))
TRIANGLES_APART = ((0, 1, 2), (3, 4, 5))
# A triangle that meets another along a side, and by its third corner a further one.
PINCHED = ((0, 1, 2), (0, 1, 3), (2, 3, 4), (0, 2, 3))
SOLID_RIM = ((0, 1, 2), (0, 1, 3), (0, 2, 3), (1, 2, 3))
EIGHT = tuple(tuple(sorted((a, b, c))) for a in (0, 5) for b in (1, 4) for c in (2, 3))
SIX_RIM = tuple(itertools.combinations(range(6), 5))
SEVEN_RIM = tuple(itertools.combinations(range(7), 6))
NAMES = ((-FIGURES_30, 0, FIGURES_30), (-FIGURES_30, 0, 5), (-3, 5, FIGURES_30))
FORTY_DOTS = tuple((k,) for k in range(40))
FORTY_ROW = tuple((k, k + 1) for k in range(40))
FORTY_SIXES = first_combinations(range(-2, 7), 6, 40)
FORTY_SIX_APART = tuple(tuple(range(6 * k, 6 * k + 6)) for k in range(40))

SMALL = [
    DOT, DOTS, STICK, ROW, RING, TRIANGLE_RIM, STICKS_APART, TWO, BOW, FAN, TRIANGLES_APART,
    PINCHED, SOLID_RIM, SIX_RIM, NAMES,
]
TWELVE_DOTS = tuple((5 - 7 * k % 12,) for k in range(12))
TWELVE_ROW = tuple((k, k + 1) for k in range(12))
TWELVE_RING = tuple(tuple(sorted((k, (k + 1) % 12))) for k in range(12))
TWELVE_STAR = tuple((0, k) for k in range(1, 13))
TWELVE_SIXES = first_combinations(range(8), 6, 12)
TWELVE_TRIANGLES = first_combinations(range(6), 3, 12)
# Triangles about one corner, in a ring, and one more that meets them there alone.
TWELVE_WHEEL = tuple(tuple(sorted((0, 1 + k, 1 + (k + 1) % 11))) for k in range(11)) + ((0, 20, 21),)
# The same with the last triangle apart.
TWELVE_APART = TWELVE_WHEEL[:11] + ((20, 21, 22),)
# Ten triangles along one side, and two more that meet some of them at lone corners.
TWELVE_FANS = tuple((0, 1, k) for k in range(2, 12)) + ((2, 3, 20), (2, 3, 21))
TWELVES = [
    TWELVE_DOTS, TWELVE_ROW, TWELVE_RING, TWELVE_STAR, TWELVE_SIXES, TWELVE_TRIANGLES,
    TWELVE_WHEEL, TWELVE_APART, TWELVE_FANS,
]

# Two pieces of one corner are closed; so are two rings apart, and two rims that meet at a lone corner.
TWO_DOTS = ((4,), (2,))
TWO_RINGS = TRIANGLE_RIM + ((5, 6), (5, 7), (6, 7))
TWO_RIMS = SOLID_RIM + ((0, 4, 5), (0, 4, 6), (0, 5, 6), (4, 5, 6))
# Closed shapes that hold together and have no order: one by its two ends, one by a count below 0.
CROSSED = (
    (0, 1, 4), (0, 1, 5), (0, 2, 3), (0, 2, 5), (0, 3, 4), (1, 2, 3), (1, 2, 4), (1, 3, 5), (2, 4, 5), (3, 4, 5))
TYRE = tuple(tuple(sorted((k + a) % 7 for a in (0, b, 3))) for b in (1, 2) for k in range(7))
BAND = ((0, 1, 2), (1, 2, 3), (2, 3, 4), (0, 3, 4), (0, 1, 4))
# One that holds together and has more even sets than an order has room for.
EVENS_ONLY = ((0, 1, 2), (0, 2, 3), (1, 2, 3), (0, 1, 3), (1, 3, 4), (0, 2, 4))
# Here links alone are barred, by parts, by counts, by even sets.
LINK_APART = ((0, 1, 3, 4), (0, 1, 3, 5), (1, 2, 3, 4), (0, 3, 4, 5), (0, 1, 4, 5), (0, 2, 3, 5))
LINK_COUNTS = ((0, 1, 2, 4), (0, 1, 3, 4), (0, 3, 4, 6), (1, 2, 3, 4), (0, 1, 2, 6), (0, 1, 2, 3))
LINK_EVENS = ((0, 1, 2, 3), (0, 1, 3, 4), (1, 2, 3, 4), (0, 1, 2, 5), (1, 3, 4, 5), (0, 1, 2, 4))
# A closed one without an order and a triangle more: it has orders, and beginnings from which none goes on.
CAPPED = CROSSED + ((0, 1, 2),)


def turned_about(pieces, *turns):
    """All pieces that come of some by turns, each told by the corners that follow those from 1 to 9."""
    found, todo = set(pieces), list(pieces)
    while todo:
        piece = todo.pop()
        for turn in turns:
            more = tuple(sorted(turn[corner - 1] for corner in piece))
            if more not in found:
                found.add(more)
                todo.append(more)
    return sorted(found)


def split_up(pieces, piece, corner):
    """The pieces with one split up by a new corner in its midst."""
    sides = itertools.combinations(piece, len(piece) - 1)
    return tuple(kept for kept in pieces if kept != piece) + tuple(tuple(sorted((*side, corner))) for side in sides)


# A closed shape that its two ends alone bar: neither its parts, nor a count below 0, nor even sets, nor links do.
NINE = turned_about(
    [(1, 2, 4, 5, 6), (1, 2, 4, 5, 9)],
    (4, 5, 6, 7, 8, 9, 1, 2, 3), (2, 3, 1, 6, 4, 5, 7, 8, 9), (2, 1, 3, 5, 4, 6, 8, 7, 9))
UNLIKE_ONLY = split_up(NINE, (1, 2, 3, 7, 8), 10)

BARRED = [
    STICKS_APART, BOW, TRIANGLES_APART, NAMES, TWO_RINGS, TWO_RIMS, CROSSED, BAND, EVENS_ONLY,
    LINK_APART, LINK_COUNTS, LINK_EVENS, TWELVE_WHEEL, TWELVE_APART, TWELVE_FANS,
]
CLOSED = [
    TWO_DOTS, RING, TRIANGLE_RIM, SOLID_RIM, EIGHT, SIX_RIM, SEVEN_RIM, TWELVE_RING,
    TWO_RINGS, TWO_RIMS, CROSSED, TYRE,
]

RANDOM = [random_shape(seed) for seed in range(60)]
FORTIES = [FORTY_DOTS, FORTY_ROW, FORTY_SIXES, FORTY_SIX_APART]
SHAPES = SMALL + [EIGHT, SEVEN_RIM] + RANDOM + TWELVES + FORTIES
MORE_SHAPES = SHAPES + [TWO_DOTS, TWO_RINGS, TWO_RIMS, CROSSED, TYRE, BAND] + [
    EVENS_ONLY, LINK_APART, LINK_COUNTS, LINK_EVENS]

# Things that are no wish, of whatever shape of at most twelve pieces.
NO_WISHES = [thing for thing in NOTHINGS if thing not in (((), ()), ((), (0,)))] + [
    0, 1, (), [], ((),), ((), (), ()), ((0,),), ((0,), (), ()), [(), ()], [(), (0,)],
    ([], ()), ((), []), ([0], ()), ((), [0]), ((0,), [0]), ({}, ()), ((), {}), ((), {0: 0}),
    ("", ""), ("0", ()), ((), "0"), (None, ()), ((), None), (0, 0), (0, ()), ((), 0), (True, False),
    ((0, 0), ()), ((), (0, 0)), ((0,), (0,)), ((-1,), ()), ((), (-1,)), ((0, -1), ()), ((), (0, -1)),
    ((12,), ()), ((), (12,)), ((40,), ()), ((FIGURES_60,), ()), ((), (-FIGURES_60,)),
    ((True,), ()), ((), (False,)), ((0, True), ()), ((False,), (True,)), ((None,), ()), ((), (None,)),
    (("0",), ()), ((), ("0",)), (((0,),), ()), ((), ((),)), (([],), ()), ((), ({},)), ((), ((0,),)),
]


def plain_has(pieces, face):
    return any(set(face) <= set(piece) for piece in pieces)


def plain_shared(shape, laid, k):
    """The greatest shared faces, straight as point 7 says them."""
    pieces = [shape[j] for j in laid]
    held = [face for face in subsets(shape[k]) if plain_has(pieces, face)]
    return sorted(face for face in held if not any(set(face) < set(more) for more in held))


def plain_fits(shape, laid, k):
    sides = list(itertools.combinations(shape[k], len(shape[k]) - 1))
    return not laid or all(face in sides for face in plain_shared(shape, laid, k))


def plain_brings(shape, laid, k):
    """The corners without which the rest lies in a laid piece."""
    pieces = [shape[j] for j in laid]
    piece = set(shape[k])
    return tuple(sorted(c for c in piece if plain_has(pieces, piece - {c})))


def plain_sides(pieces):
    """How many pieces each side lies in, the sides as they come."""
    found = {}
    for piece in pieces:
        for corner in piece:
            side = tuple(kept for kept in piece if kept != corner)
            found[side] = found.get(side, 0) + 1
    return found


def plain_closed(shape):
    return set(plain_sides(shape).values()) == {2}


def plain_brought(shape):
    """The brought counts, by multiplying out the count for i times t to the i times (1 - t) to the n - i."""
    size = len(shape[0])
    counts = [0] * (size + 1)
    for face in {face for piece in shape for face in subsets(piece)}:
        counts[len(face)] += 1
    brought = [0] * (size + 1)
    for i, count in enumerate(counts):
        terms = [0] * i + [count]
        for _ in range(size - i):
            terms = [a - b for a, b in zip(terms + [0], [0] + terms)]
        brought = [a + b for a, b in zip(brought, terms)]
    return brought


def plain_even(shape, numbers):
    return all(many % 2 == 0 for many in plain_sides([shape[k] for k in numbers]).values())


def even_dimension(shape):
    """How many even sets all others are made of, by the rank of the pieces' sides."""
    sides = list(plain_sides(shape))
    pivots = {}
    for piece in shape:
        mask = sum(1 << at for at, side in enumerate(sides) if set(side) <= set(piece))
        while mask and mask.bit_length() in pivots:
            mask ^= pivots[mask.bit_length()]
        if mask:
            pivots[mask.bit_length()] = mask
    return len(shape) - len(pivots)


def plain_link(shape, face):
    return tuple(tuple(sorted(set(piece) - set(face))) for piece in shape if set(face) <= set(piece))


def plain_parts(shape):
    """Parts grown by putting together any two of them that share a side, until none do."""
    found = [{k} for k in range(len(shape))]
    size = len(shape[0]) - 1

    def tied(one, other):
        return any(len(set(shape[j]) & set(shape[k])) >= size for j in one for k in other)

    pair = True
    while pair:
        pair = next(((a, b) for a, b in itertools.combinations(found, 2) if tied(a, b)), None)
        if pair:
            found = [some for some in found if some not in pair] + [pair[0] | pair[1]]
    return sorted(sorted(some) for some in found)


def plain_fault_of(shape, order):
    for place in range(len(order)):
        if not plain_fits(shape, order[:place], order[place]):
            return place
    return None


def all_orders(shape):
    numbers = itertools.permutations(range(len(shape)))
    return [list(some) for some in numbers if plain_fault_of(shape, list(some)) is None]


def plain_wished(wish, order):
    """Whether the order is as wished, place by place."""
    beginning, end = wish
    ahead = all(order[place] == k for place, k in enumerate(beginning))
    return ahead and all(order[-1 - place] == k for place, k in enumerate(reversed(end)))


def fit_masks(shape):
    """For each piece k and each j the set, as a mask, of the pieces along a side of k that holds what both share."""
    whole = [set(piece) for piece in shape]
    masks = []
    for k, piece in enumerate(whole):
        along = [j for j, other in enumerate(whole) if len(piece & other) == len(piece) - 1]
        masks.append([sum(1 << j for j in along if piece & other <= piece & whole[j]) for other in whole])
    return masks


def mask_fits(masks, mask, k):
    """Whether piece k fits to the laid ones of a mask: each that it meets is met along a side, too."""
    return all(masks[k][j] & mask for j in range(len(masks)) if mask >> j & 1)


def at_place(shape, wish, place):
    """The pieces that may stand at a place of an order as wished."""
    beginning, end = wish
    filled = [*beginning] + [None] * (len(shape) - len(beginning) - len(end)) + [*end]
    if filled[place] is not None:
        return [filled[place]]
    return [k for k in range(len(shape)) if k not in filled]


def ways_by_masks(shape, wish):
    """A function from a mask of laid pieces to how many ways lead on, place by place."""
    masks = fit_masks(shape)

    @functools.lru_cache(maxsize=None)
    def ways(mask):
        place = bin(mask).count("1")
        if place == len(shape):
            return 1
        free = [k for k in at_place(shape, wish, place) if not mask >> k & 1]
        return sum(ways(mask | 1 << k) for k in free if mask_fits(masks, mask, k))

    return ways


def first_by_masks(shape, wish):
    """The first order as wished, None where there is none."""
    ways = ways_by_masks(shape, wish)
    masks = fit_masks(shape)
    order, mask = [], 0
    while ways(mask) and len(order) < len(shape):
        free = [k for k in at_place(shape, wish, len(order)) if not mask >> k & 1]
        k = min(k for k in free if mask_fits(masks, mask, k) and ways(mask | 1 << k))
        order.append(k)
        mask |= 1 << k
    return order if len(order) == len(shape) else None


def all_wishes(shape):
    """Each wish for an order of a small shape."""
    numbers = range(len(shape))
    for many in range(len(shape) + 1):
        for some in itertools.permutations(numbers, many):
            for cut in range(many + 1):
                yield some[:cut], some[cut:]


def some_wishes(shape, many, seed=1):
    """Some wishes of any lengths, most of them taken from what an order may be like."""
    dice = random.Random(seed)
    order = an_order(shape)
    for _ in range(many):
        numbers = list(range(len(shape)))
        dice.shuffle(numbers)
        if order is not None and dice.random() < 0.7:
            numbers = order
        low = dice.choice([0, 0, 1, 2, dice.randint(0, len(shape))])
        high = dice.choice([0, 0, 1, dice.randint(0, len(shape))])
        low = min(low, len(shape))
        high = min(high, len(shape) - low)
        yield tuple(numbers[:low]), tuple(numbers[len(shape) - high:])


def an_order(shape):
    """Some order of a shape, found by laying what fits; None where this gets stuck."""
    laid = []
    while len(laid) < len(shape):
        free = [k for k in range(len(shape)) if k not in laid and plain_fits(shape, laid, k)]
        if not free:
            return None
        laid.append(free[-1])
    return laid


def some_names(dice, many):
    """So many corners, small ones and far ones of either sign."""
    found = {FIGURES_30, -FIGURES_30, 0} if many > 5 else set()
    while len(found) < many:
        bound = dice.choice([30, 30, 10 ** 9, FIGURES_30])
        found.add(dice.randint(-bound, bound))
    return sorted(found)


def meets_well(laid, piece):
    """Whether a piece fits to laid ones, all told as sets: each that it meets is met along a side, too."""
    met = [piece & other for other in laid]
    along = [face for face in met if len(face) == len(piece) - 1]
    return all(any(face <= side for side in along) for face in met)


def grown(size, many, spare, seed):
    """A shape laid at random along whole sides, its pieces shuffled, and the order of the laying."""
    dice = random.Random(seed)
    names = some_names(dice, size + spare)
    laid = [set(dice.sample(names, size))]
    while len(laid) < many:
        piece = set(dice.choice(laid))
        piece.remove(dice.choice(sorted(piece)))
        piece.add(dice.choice([name for name in names if name not in piece]))
        if piece not in laid and meets_well(laid, piece):
            laid.append(piece)
    places = list(range(many))
    dice.shuffle(places)
    shape = [None] * many
    for place, piece in zip(places, laid):
        shape[place] = tuple(sorted(piece))
    return tuple(shape), places


# Shapes with an order, of pieces of one to six corners, from one piece to forty.
GROWN = [grown(1, many, 44, many) for many in (1, 2, 3, 7, 40)]
GROWN += [grown(size, many, spare, 100 * size + many)
          for size in range(2, 7) for many, spare in ((1, 0), (2, 1), (4, 3), (6, 4), (13, 5), (40, 10))]
# Of these each piece meets many: much is brought, wholly too.
GROWN += [grown(size, many, 3, 7 * size + many) for size, many in ((2, 10), (3, 16), (4, 25), (5, 30), (6, 40))]


def ordered():
    """Tuples of a shape and an order of it: all orders of small shapes, some of others."""
    for shape in MORE_SHAPES:
        found = all_orders(shape) if len(shape) <= 4 else [an_order(shape)]
        for order in found:
            if order is not None:
                yield shape, order
    yield from GROWN


def plain_paper(shape, order):
    """The paper of an order, straight as points 7 and 8 say it."""
    return [(k, plain_brings(shape, order[:place], k)) for place, k in enumerate(order)]


def far_names(shape, seed=3):
    """A dict from the corners of a shape to others, far and near, in another order."""
    dice = random.Random(seed)
    old = sorted({corner for piece in shape for corner in piece})
    new = some_names(dice, max(6, len(old)))
    dice.shuffle(new)
    return dict(zip(old, new))
