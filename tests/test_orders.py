"""Points 2 and 8: orders."""

import copy
import itertools
import unittest

import samples
from samples import FIGURES_60, NOTHINGS, SHAPES
from wholesides.orders import fault_of, is_order


class FaultOfTest(unittest.TestCase):
    def test_by_hand(self):
        self.assertIsNone(fault_of(samples.DOT, [0]))
        self.assertIsNone(fault_of(samples.ROW, [2, 1, 3, 0]))
        self.assertEqual(fault_of(samples.ROW, [0, 2, 1, 3]), 1)
        self.assertEqual(fault_of(samples.ROW, [0, 1, 3, 2]), 2)
        self.assertEqual(fault_of(samples.BOW, [1, 0]), 1)
        self.assertEqual(fault_of(samples.FAN, [0, 1, 2]), 1)
        self.assertIsNone(fault_of(samples.FAN, [0, 2, 1]))
        self.assertEqual(fault_of(((0, 1, 2), (0, 1, 3), (1, 3, 4), (0, 2, 5), (2, 4, 6)), [0, 1, 2, 3, 4]), 4)

    def test_the_first_of_several(self):
        self.assertEqual(fault_of(samples.FORTY_ROW, [0, 1, 2, 5, 3, 9] + [4, 6, 7, 8] + list(range(10, 40))), 3)
        self.assertEqual(fault_of(samples.FORTY_SIX_APART, list(range(40))), 1)

    def test_all_lists_of_small_shapes(self):
        for shape in samples.SMALL + [some for some in samples.RANDOM if len(some) <= 5]:
            for some in itertools.permutations(range(len(shape))):
                order = list(some)
                place = samples.plain_fault_of(shape, order)
                self.assertEqual(fault_of(shape, order), place)
                self.assertIs(is_order(shape, order), place is None)
                self.assertEqual(order, list(some))

    def test_all_shapes(self):
        for shape in SHAPES:
            numbers = list(range(len(shape)))
            for order in (numbers, numbers[::-1], numbers[::2] + numbers[1::2]):
                place = samples.plain_fault_of(shape, order)
                self.assertEqual(fault_of(shape, order), place)
                self.assertIs(is_order(shape, order), place is None)


class IsOrderTest(unittest.TestCase):
    def test_how_many(self):
        told = [(samples.DOTS, 24), (samples.ROW, 8), (samples.RING, 16), (samples.TRIANGLE_RIM, 6),
                (samples.SOLID_RIM, 24), (samples.BOW, 0), (samples.FAN, 4), (samples.STICKS_APART, 0)]
        for shape, many in told:
            lists = itertools.permutations(range(len(shape)))
            self.assertEqual(sum(is_order(shape, list(some)) for some in lists), many)

    def test_wrong_numbers(self):
        wrong = [
            [], [0], [0, 1, 2], [0, 1, 2, 2], [0, 0, 1, 2], [0, 1, 2, 3, 3], [0, 1, 2, 3, 4],
            [1, 2, 3, 4], [0, 1, 2, 4], [-1, 0, 1, 2], [0, 1, 2, -1], [-4, -3, -2, -1],
            [0, True, 2, 3], [False, 1, 2, 3], [False, True, 2, 3], [0, 1, 2, FIGURES_60],
            (0, 1, 2, 3), [[0, 1, 2, 3]], [0, 1, 2, [3]], [0, 1, 2, (3,)], [0, 1, 2, None],
            [0, 1, 2, "3"], ["0", "1", "2", "3"], "0123", {0: 0, 1: 1, 2: 2, 3: 3}, 0, 3,
            [0, 1, 2, {}], [(0, ()), (1, (2,)), (2, (3,)), (3, (4,))],
        ]
        self.assertIs(is_order(samples.ROW, [0, 1, 2, 3]), True)
        for thing in wrong:
            with self.subTest(thing=thing):
                kept = copy.deepcopy(thing)
                self.assertIs(is_order(samples.ROW, thing), False)
                self.assertEqual(thing, kept)

    def test_truths_are_no_numbers(self):
        self.assertIs(is_order(samples.DOT, [0]), True)
        self.assertIs(is_order(samples.DOT, [False]), False)
        self.assertIs(is_order(samples.TWO, [True, False]), False)
        self.assertIs(is_order(samples.TWO, [1, False]), False)

    def test_anything_else_is_none(self):
        for shape in samples.SMALL + samples.FORTIES:
            for thing in NOTHINGS + [(), (0,), [], shape, list(shape)]:
                self.assertIs(is_order(shape, thing), False)


if __name__ == "__main__":
    unittest.main()
