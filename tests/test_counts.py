"""Points 2 and 6: counts and brought counts."""

import math
import random
import unittest

import samples
from samples import FIGURES_60, SHAPES
from wholesides.counts import brought_counts, brought_from, counts_from, face_counts

BY_HAND = [
    (samples.DOT, [1, 1], [1, 0]),
    (samples.DOTS, [1, 4], [1, 3]),
    (samples.STICK, [1, 2, 1], [1, 0, 0]),
    (samples.ROW, [1, 5, 4], [1, 3, 0]),
    (samples.RING, [1, 4, 4], [1, 2, 1]),
    (samples.TRIANGLE_RIM, [1, 3, 3], [1, 1, 1]),
    (samples.STICKS_APART, [1, 4, 2], [1, 2, -1]),
    (samples.TWO, [1, 4, 5, 2], [1, 1, 0, 0]),
    (samples.BOW, [1, 5, 6, 2], [1, 2, -1, 0]),
    (samples.FAN, [1, 5, 7, 3], [1, 2, 0, 0]),
    (samples.TRIANGLES_APART, [1, 6, 6, 2], [1, 3, -3, 1]),
    (samples.SOLID_RIM, [1, 4, 6, 4], [1, 1, 1, 1]),
    (samples.EIGHT, [1, 6, 12, 8], [1, 3, 3, 1]),
    (samples.SEVEN_RIM, [1, 7, 21, 35, 35, 21, 7], [1, 1, 1, 1, 1, 1, 1]),
    (samples.FORTY_DOTS, [1, 40], [1, 39]),
    (samples.FORTY_ROW, [1, 41, 40], [1, 39, 0]),
    (samples.FORTY_SIX_APART, [1, 240, 600, 800, 600, 240, 40], [1, 234, -585, 780, -585, 234, -39]),
]


def plain_brought(counts):
    n = len(counts) - 1
    return [sum((-1) ** (k - i) * math.comb(n - i, k - i) * counts[i] for i in range(k + 1))
            for k in range(n + 1)]


def plain_counts(brought):
    n = len(brought) - 1
    return [sum(math.comb(n - i, k - i) * brought[i] for i in range(k + 1)) for k in range(n + 1)]


def number_lists():
    dice = random.Random(6)
    told = [[0], [5], [-5], [FIGURES_60], [-FIGURES_60] * 7, [FIGURES_60] * 7, [0] * 7]
    for most in (3, 100, FIGURES_60):
        for size in range(1, 8):
            told += [[dice.randint(-most, most) for _ in range(size)] for _ in range(5)]
    return told


class CountsTest(unittest.TestCase):
    def test_by_hand(self):
        for shape, counts, brought in BY_HAND:
            with self.subTest(shape=shape[:4]):
                self.assertEqual(face_counts(shape), counts)
                self.assertEqual(brought_counts(shape), brought)
                self.assertEqual(brought_from(counts), brought)
                self.assertEqual(counts_from(brought), counts)

    def test_every_shape(self):
        for shape in SHAPES:
            found = {face for piece in shape for face in samples.subsets(piece)}
            sizes = [len(face) for face in found]
            counts = [sizes.count(k) for k in range(len(shape[0]) + 1)]
            self.assertEqual(face_counts(shape), counts)
            self.assertEqual(brought_counts(shape), plain_brought(counts))
            self.assertEqual(sum(brought_counts(shape)), len(shape))

    def test_of_any_whole_numbers(self):
        for numbers in number_lists():
            with self.subTest(numbers=numbers):
                self.assertEqual(brought_from(numbers), plain_brought(numbers))
                self.assertEqual(counts_from(numbers), plain_counts(numbers))

    def test_one_makes_the_other(self):
        for numbers in number_lists():
            self.assertEqual(counts_from(brought_from(numbers)), numbers)
            self.assertEqual(brought_from(counts_from(numbers)), numbers)

    def test_lists_somewhat_too_long(self):
        numbers = list(range(9))
        self.assertEqual(counts_from(brought_from(numbers)), numbers)

    def test_what_is_handed_in_stays(self):
        for ask in (brought_from, counts_from):
            numbers = [1, -4, 6]
            told = ask(numbers)
            kept = list(told)
            self.assertEqual(numbers, [1, -4, 6])
            numbers[0] = 100
            self.assertEqual(told, kept)

    def test_the_lists_are_the_askers_own(self):
        for shape in samples.SMALL:
            for ask in (face_counts, brought_counts):
                first = ask(shape)
                kept = list(first)
                first.append(9)
                first[0] = 9
                self.assertEqual(ask(shape), kept)
        for ask in (brought_from, counts_from):
            for numbers in ([5], [1, 2], [1, -4, 6]):
                first = ask(numbers)
                kept = list(first)
                first.append(9)
                first[0] = 9
                self.assertEqual(ask(numbers), kept)


if __name__ == "__main__":
    unittest.main()
