"""Points 2 and 13: parts, and shapes that hold together."""

import itertools
import random
import unittest

import samples
from samples import SHAPES
from wholesides.together import holds_together, parts


def more_shapes():
    """Shapes of some pieces far apart, in any order."""
    dice = random.Random(5)
    for _ in range(40):
        size = dice.randint(1, 6)
        pieces = {tuple(sorted(dice.sample(range(low, low + size + 1), size)))
                  for low in dice.choices(range(0, 30), k=dice.randint(1, 14))}
        pieces = list(pieces)
        dice.shuffle(pieces)
        yield tuple(pieces)


class PartsTest(unittest.TestCase):
    def check(self, shape, told):
        self.assertEqual(parts(shape), told)
        self.assertIs(holds_together(shape), len(told) == 1)

    def test_one_piece(self):
        for shape in (samples.DOT, samples.STICK, ((0, 1, 2, 3, 4, 5),)):
            self.check(shape, [[0]])

    def test_pieces_of_one_corner_share_the_empty_face(self):
        self.check(samples.DOTS, [[0, 1, 2, 3]])
        self.check(samples.FORTY_DOTS, [list(range(40))])

    def test_apart(self):
        self.check(samples.STICKS_APART, [[0], [1]])
        self.check(samples.TRIANGLES_APART, [[0], [1]])
        self.check(samples.TWELVE_APART, [list(range(11)), [11]])

    def test_less_than_a_side(self):
        self.check(samples.BOW, [[0], [1]])
        self.check(samples.TWELVE_WHEEL, [list(range(11)), [11]])
        self.check(samples.TWELVE_FANS, [list(range(10)), [10, 11]])
        self.check(((0, 1, 2, 3), (2, 3, 4, 5)), [[0], [1]])

    def test_all_in_one(self):
        for shape in (samples.ROW, samples.RING, samples.TWO, samples.FAN, samples.SOLID_RIM, samples.EIGHT):
            self.check(shape, [list(range(len(shape)))])

    def test_by_way_of_others(self):
        self.check(((0, 1), (3, 4), (1, 2), (4, 5), (2, 3)), [[0, 1, 2, 3, 4]])
        self.check(((3, 4), (0, 1), (4, 5), (7, 8), (1, 2), (8, 9)), [[0, 2], [1, 4], [3, 5]])

    def test_forty(self):
        self.check(samples.FORTY_ROW, [list(range(40))])
        self.check(samples.FORTY_SIX_APART, [[k] for k in range(40)])
        shuffled = list(samples.FORTY_ROW)
        random.Random(3).shuffle(shuffled)
        self.check(tuple(shuffled), [list(range(40))])
        shuffled[shuffled.index((20, 21))] = (90, 91)
        lone = shuffled.index((90, 91))
        low = sorted(k for k, piece in enumerate(shuffled) if piece[0] < 20)
        high = sorted(k for k, piece in enumerate(shuffled) if 20 < piece[0] < 90)
        self.check(tuple(shuffled), sorted([low, high, [lone]]))

    def test_all_shapes(self):
        for shape in itertools.chain(samples.MORE_SHAPES, more_shapes()):
            self.check(shape, samples.plain_parts(shape))

    def test_a_shape_with_an_order_holds_together(self):
        with_order = [shape for shape in SHAPES if samples.an_order(shape) is not None]
        self.assertGreater(len(with_order), 30)
        for shape in with_order:
            self.assertIs(holds_together(shape), True)


class OwnTest(unittest.TestCase):
    def test_the_lists_are_the_askers_own(self):
        found = parts(samples.BOW)
        found[0].append("more")
        found.append("more")
        self.assertEqual(parts(samples.BOW), [[0], [1]])
        self.assertEqual(found[1], [1])


if __name__ == "__main__":
    unittest.main()
