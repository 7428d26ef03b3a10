"""Bars, bars with one thing amiss, and a slow, plain checker that the tests of bars share."""

import itertools

import samples

NO_WISH = ((), ())


def is_int(thing):
    return type(thing) is int


def rising_numbers(shape, thing, kind):
    """Whether it is a list, or a tuple, of pieces' numbers, rising."""
    if type(thing) is not kind or not all(is_int(k) and 0 <= k < len(shape) for k in thing):
        return False
    return list(thing) == sorted(set(thing))


def face_of(shape, thing):
    """Whether it is a face of the shape."""
    if type(thing) is not tuple or not all(is_int(corner) for corner in thing):
        return False
    return list(thing) == sorted(set(thing)) and samples.plain_has(shape, thing)


def next_allowed(shape, wish, laid):
    """Which pieces may come next to a set, as wished or not."""
    beginning, end = wish
    place, left = len(laid), len(shape) - len(laid)
    if place < len(beginning):
        return {beginning[place]}
    if left > len(end):
        return set(range(len(shape))) - set(laid) - set(end)
    return {end[-left]} if left else set()


def steps_on(shape, wish, laid):
    free = next_allowed(shape, wish, laid) - set(laid)
    return [tuple(sorted({*laid, k})) for k in sorted(free) if samples.plain_fits(shape, list(laid), k)]


def plain_cut(shape, laid, cut):
    if type(cut) is not tuple or len(cut) != 2 or not is_int(cut[0]) or not 0 <= cut[0] < len(shape):
        return False
    k, face = cut
    if k in laid or not face_of([shape[k]], face) or not samples.plain_has([shape[j] for j in laid], face):
        return False
    others = [piece for j, piece in enumerate(shape) if j != k]
    sides = itertools.combinations(shape[k], len(shape[k]) - 1)
    return not any(set(face) <= set(side) and samples.plain_has(others, side) for side in sides)


def plain_rows(shape, wish, rows):
    if type(rows) is not list or not all(type(row) is tuple and len(row) == 2 for row in rows):
        return False
    if not all(rising_numbers(shape, laid, tuple) and len(laid) < len(shape) for laid, _ in rows):
        return False
    told = [laid for laid, _ in rows]
    if len(set(told)) != len(told) or () not in told:
        return False
    for laid, cut in rows:
        if cut is None and not set(steps_on(shape, wish, laid)) <= set(told):
            return False
        if cut is not None and not plain_cut(shape, laid, cut):
            return False
    return True


def plain_evens(shape, sets):
    if type(sets) is not list or not sets or len(sets) <= samples.plain_brought(shape)[-1]:
        return False
    for numbers in sets:
        if not rising_numbers(shape, numbers, list) or not numbers or not samples.plain_even(shape, numbers):
            return False
    return all(one[0] not in later for one, later in itertools.combinations(sets, 2))


def plain_apart(shape, numbers):
    if not rising_numbers(shape, numbers, list) or not 0 < len(numbers) < len(shape):
        return False
    rest = [piece for k, piece in enumerate(shape) if k not in numbers]
    return not any(samples.plain_has(rest, side) for side in samples.plain_sides([shape[k] for k in numbers]))


def plain_bars(shape, wish, thing):
    """Whether the thing is let by as a bar, straight as points 14 and 15 say it."""
    size = len(shape[0])
    if type(thing) is not tuple or not thing or type(thing[0]) is not str:
        return False
    if thing[0] == "link" and len(thing) == 3:
        right = face_of(shape, thing[1]) and 0 < len(thing[1]) < size
        return right and plain_bars(samples.plain_link(shape, thing[1]), NO_WISH, thing[2])
    if len(thing) != 2:
        return False
    word, told = thing
    if word in ("counts", "unlike") and is_int(told) and 0 <= told <= size:
        brought = samples.plain_brought(shape)
        if word == "counts":
            return brought[told] < 0
        return samples.plain_closed(shape) and brought[told] != brought[size - told]
    if word == "sets":
        return plain_rows(shape, wish, told)
    return word == "apart" and plain_apart(shape, told) or word == "evens" and plain_evens(shape, told)


def reached(shape, wish):
    """All sets that can be laid as wished, the whole shape too."""
    found, todo = {()}, [()]
    while todo:
        for more in steps_on(shape, wish, todo.pop()):
            if more not in found:
                found.add(more)
                todo.append(more)
    return sorted(found)


def rows_without_cuts(shape, wish):
    """The rows of sets that bar it; where an order is as wished, they are not right."""
    return [(laid, None) for laid in reached(shape, wish) if len(laid) < len(shape)]


def a_cut(shape, laid):
    """Some cut of a set, None without any."""
    for k in range(len(shape)):
        for face in samples.subsets(shape[k]):
            if plain_cut(shape, laid, (k, face)):
                return (k, face)
    return None


def rows_with_cuts(shape, wish):
    """The same, with a cut wherever there is one, and no sets behind it."""
    rows, todo = {}, [()]
    while todo:
        laid = todo.pop()
        if laid not in rows and len(laid) < len(shape):
            rows[laid] = a_cut(shape, laid)
            if rows[laid] is None:
                todo += steps_on(shape, wish, laid)
    return sorted(rows.items(), key=lambda row: row[0])


def more_corners(shape, many):
    """The shape joined with so many lone corners, and their face."""
    added = tuple(range(100, 100 + many))
    return tuple(piece + added for piece in shape), added


LINKED, LINKED_BY = more_corners(samples.STICKS_APART, 4)
LINKED_SETS, LINKED_SETS_BY = more_corners(samples.BOW, 2)

# Right bars, each with its shape and the wish.
RIGHT = [
    (samples.STICKS_APART, NO_WISH, ("apart", [0])),
    (samples.STICKS_APART, ((0,), (1,)), ("apart", [1])),
    (samples.TWELVE_APART, NO_WISH, ("apart", [11])),
    (samples.TWELVE_WHEEL, ((), (3,)), ("apart", list(range(11)))),
    (samples.FORTY_SIX_APART, NO_WISH, ("apart", [3, 17, 39])),
    (samples.BAND, NO_WISH, ("counts", 3)),
    (samples.BAND, ((2,), ()), ("counts", 3)),
    (samples.TYRE, NO_WISH, ("counts", 3)),
    (samples.CROSSED, NO_WISH, ("unlike", 0)),
    (samples.CROSSED, ((1, 2), (0,)), ("unlike", 3)),
    (samples.TYRE, NO_WISH, ("unlike", 1)),
    (samples.TWO_RIMS, NO_WISH, ("unlike", 2)),
    (samples.CROSSED, NO_WISH, ("evens", [list(range(10))])),
    (samples.EVENS_ONLY, ((), (5,)), ("evens", [[0, 1, 2, 3]])),
    (samples.TWO_RINGS, NO_WISH, ("evens", [[0, 1, 2], [3, 4, 5]])),
    (samples.TWO_RINGS, NO_WISH, ("evens", [[0, 1, 2, 3, 4, 5], [3, 4, 5]])),
    (samples.TYRE, NO_WISH, ("evens", [list(range(14))])),
    (samples.LINK_APART, NO_WISH, ("link", (2,), ("apart", [0]))),
    (samples.LINK_APART, ((0,), ()), ("link", (2,), ("apart", [1]))),
    (samples.LINK_COUNTS, NO_WISH, ("link", (0,), ("counts", 3))),
    (samples.LINK_EVENS, NO_WISH, ("link", (1,), ("evens", [[0, 1, 2, 5]]))),
    (samples.BOW, NO_WISH, ("link", (2,), ("apart", [0]))),
    (LINKED, NO_WISH, ("link", LINKED_BY, ("apart", [1]))),
    (LINKED, NO_WISH, ("link", (100,), ("link", (102, 103), ("link", (101,), ("apart", [0]))))),
    (LINKED, ((1,), ()), ("link", (100,), ("link", (101,), ("link", (102,), ("link", (103,), ("apart", [0])))))),
    (LINKED_SETS, ((1,), ()), ("link", LINKED_SETS_BY, ("sets", rows_with_cuts(samples.BOW, NO_WISH)))),
    (samples.BOW, NO_WISH, ("sets", rows_without_cuts(samples.BOW, NO_WISH))),
    (samples.BOW, NO_WISH, ("sets", [((0,), (1, (2,))), ((), None), ((1,), (0, (2,)))])),
    (samples.BOW, ((1,), ()), ("sets", [((), None), ((1,), (0, (2,)))])),
    (samples.BOW, ((1,), ()), ("sets", [((), None), ((1,), None)])),
    (samples.FAN, ((), (2,)), ("sets", rows_without_cuts(samples.FAN, ((), (2,))))),
    (samples.FAN, ((0, 1), ()), ("sets", rows_without_cuts(samples.FAN, ((0, 1), ())))),
    (samples.NAMES, NO_WISH, ("sets", rows_with_cuts(samples.NAMES, NO_WISH))),
    (samples.ROW, ((1,), (2,)), ("sets", rows_without_cuts(samples.ROW, ((1,), (2,))))),
    (samples.RING, ((0, 2), ()), ("sets", [((), None), ((0,), None)])),
    (samples.TWELVE_WHEEL, NO_WISH, ("sets", rows_with_cuts(samples.TWELVE_WHEEL, NO_WISH))),
    (samples.FORTY_SIX_APART, NO_WISH,
     ("sets", [((), None)] + [((k,), ((k + 1) % 40, ())) for k in range(40)])),
    (samples.FORTY_ROW, ((0, 39), ()), ("sets", [((), None), ((0,), None)])),
]

SPARE = [None, True, False, -1, 0, 1, 2, 3, 40, samples.FIGURES_60, "", "0", "link", (), [], {}, (0,), [0], ((), None)]


def amiss(thing):
    """Things like this one, but for one thing in it."""
    yield from SPARE
    if type(thing) is int:
        yield from (thing - 1, thing + 1, -thing, bool(thing), str(thing), [thing], (thing,))
    if type(thing) is str:
        yield from (thing + "s", thing[:-1], thing.upper(), " " + thing, [thing], "nothing")
    if type(thing) not in (list, tuple):
        return
    kind = type(thing)
    yield list(thing) if kind is tuple else tuple(thing)
    yield {at: part for at, part in enumerate(thing)}
    yield thing[::-1]
    yield thing + thing
    yield thing + kind([None])
    yield kind([0]) + thing
    for at, part in enumerate(thing):
        yield thing[:at] + thing[at + 1:]
        yield thing[:at] + kind([part]) + thing[at:]
        yield thing[:at] + kind([thing[-1]]) + thing[at + 1:-1] + kind([part])
        for other in amiss(part):
            yield thing[:at] + kind([other]) + thing[at + 1:]
