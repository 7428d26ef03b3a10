"""Points 2, 19 and 20: pieces brought wholly, and even sets."""

import itertools
import random
import unittest

import samples
from samples import FIGURES_60, MORE_SHAPES, NOTHINGS
from wholesides.counts import brought_counts
from wholesides.errors import NoPiece
from wholesides.evens import even_of, even_sets, is_even
from wholesides.papers import paper_of

WIDE = random.Random(11)
# Shapes of forty pieces with many even sets.
FORTY_WIDE = [
    tuple(WIDE.sample(list(itertools.combinations(range(corners), size)), 40))
    for size, corners in ((1, 60), (2, 10), (2, 12), (3, 8), (3, 9), (4, 8), (5, 8), (6, 9), (6, 10))]
FORTY = samples.FORTIES + FORTY_WIDE


def all_even(shape):
    """Each even set, the empty one too, gone through one by one."""
    numbers = range(len(shape))
    some = itertools.chain.from_iterable(itertools.combinations(numbers, many) for many in range(len(shape) + 1))
    return [set(found) for found in some if samples.plain_even(shape, found)]


def wholly(shape, paper):
    return [k for k, brought in paper if brought == shape[k]]


class IsEvenTest(unittest.TestCase):
    def test_by_hand(self):
        self.assertIs(is_even(samples.RING, [0, 1, 2, 3]), True)
        self.assertIs(is_even(samples.RING, [3, 0, 2, 1]), True)
        self.assertIs(is_even(samples.RING, [0, 1, 2]), False)
        self.assertIs(is_even(samples.RING, [2]), False)
        self.assertIs(is_even(samples.RING, []), True)
        self.assertIs(is_even(samples.DOTS, [3, 1]), True)
        self.assertIs(is_even(samples.DOTS, [3, 1, 0]), False)
        self.assertIs(is_even(samples.DOTS, [2, 3, 1, 0]), True)
        self.assertIs(is_even(samples.TWELVE_STAR, [0, 1]), False)

    def test_a_side_in_four(self):
        leaves = tuple((0, 1, k) for k in range(2, 6))
        caps = tuple(tuple(sorted((end, 9, k))) for k in range(2, 6) for end in (0, 1))
        self.assertIs(is_even(leaves + caps, list(range(12))), True)
        self.assertIs(is_even(leaves + caps, [0, 1, 2, 4, 5, 6, 7, 8, 9]), False)

    def test_all_sets_of_small_shapes(self):
        dice = random.Random(1)
        for shape in MORE_SHAPES:
            if len(shape) <= 8:
                for many in range(len(shape) + 1):
                    for some in itertools.combinations(range(len(shape)), many):
                        numbers = dice.sample(some, many)
                        self.assertIs(is_even(shape, numbers), samples.plain_even(shape, numbers))

    def test_forty(self):
        dice = random.Random(2)
        for shape in FORTY:
            for _ in range(5):
                numbers = dice.sample(range(40), dice.randint(0, 40))
                self.assertIs(is_even(shape, numbers), samples.plain_even(shape, numbers))


class EvenSetsTest(unittest.TestCase):
    def check(self, shape):
        """That it is the one list: as many as needed, each even, each first in no other one."""
        found = even_sets(shape)
        self.assertEqual(len(found), samples.even_dimension(shape))
        self.assertEqual(found, sorted(found))
        for at, numbers in enumerate(found):
            self.assertEqual(numbers, sorted(set(numbers)))
            self.assertTrue(numbers and set(numbers) <= set(range(len(shape))))
            self.assertTrue(samples.plain_even(shape, numbers))
            for other in found[:at] + found[at + 1:]:
                self.assertNotIn(numbers[0], other)
        return found

    def test_by_hand(self):
        self.assertEqual(even_sets(samples.RING), [[0, 1, 2, 3]])
        self.assertEqual(even_sets(samples.DOTS), [[0, 3], [1, 3], [2, 3]])
        self.assertEqual(even_sets(samples.TWO_RINGS), [[0, 1, 2], [3, 4, 5]])
        self.assertEqual(even_sets(samples.RING + ((0, 2),)), [[0, 1, 4], [2, 3, 4]])
        self.assertEqual(even_sets(((0, 2),) + samples.RING), [[0, 3, 4], [1, 2, 3, 4]])
        for shape in (samples.DOT, samples.STICK, samples.ROW, samples.FAN, samples.BOW, samples.FORTY_ROW):
            self.assertEqual(even_sets(shape), [])

    def test_all_others_are_made_of_them(self):
        for shape in MORE_SHAPES:
            if len(shape) <= 10:
                found = self.check(shape)
                made = [set()]
                for numbers in found:
                    made += [some ^ set(numbers) for some in made]
                self.assertEqual(sorted(map(sorted, made)), sorted(map(sorted, all_even(shape))))

    def test_all_shapes(self):
        for shape in MORE_SHAPES:
            self.check(shape)

    def test_forty(self):
        many = [len(self.check(shape)) for shape in FORTY]
        self.assertGreater(max(many), 25)
        self.assertEqual(even_sets(samples.FORTY_DOTS), [[k, 39] for k in range(39)])

    def test_as_many_as_the_last_brought_count(self):
        for shape in MORE_SHAPES + FORTY_WIDE:
            if samples.an_order(shape) is not None:
                self.assertEqual(len(even_sets(shape)), brought_counts(shape)[-1])


class EvenOfTest(unittest.TestCase):
    def refused(self, shape, paper, k):
        with self.assertRaises(NoPiece) as caught:
            even_of(shape, paper, k)
        self.assertIs(type(caught.exception), NoPiece)

    def check(self, shape, order):
        paper = paper_of(shape, order)
        whole = wholly(shape, paper)
        for k in range(len(shape)):
            if k in whole:
                found = even_of(shape, paper, k)
                self.assertEqual(found, sorted(set(found)))
                self.assertTrue(samples.plain_even(shape, found))
                self.assertEqual([j for j in found if j in whole], [k])
            else:
                self.refused(shape, paper, k)
        return len(whole)

    def test_by_hand(self):
        paper = paper_of(samples.DOTS, [1, 3, 0, 2])
        self.assertEqual([even_of(samples.DOTS, paper, k) for k in (0, 2, 3)], [[0, 1], [1, 2], [1, 3]])
        self.refused(samples.DOTS, paper, 1)
        shape = samples.RING + ((0, 2),)
        paper = paper_of(shape, [4, 0, 1, 2, 3])
        self.assertEqual(even_of(shape, paper, 1), [0, 1, 4])
        self.assertEqual(even_of(shape, paper, 3), [2, 3, 4])
        paper = paper_of(shape, [0, 1, 2, 3, 4])
        self.assertEqual(even_of(shape, paper, 3), [0, 1, 2, 3])
        self.assertEqual(even_of(shape, paper, 4), [0, 1, 4])

    def test_all_orders(self):
        for shape in MORE_SHAPES:
            if len(shape) <= 5:
                for order in samples.all_orders(shape):
                    self.check(shape, order)

    def test_just_one_has_it(self):
        for shape in MORE_SHAPES:
            order = samples.an_order(shape)
            if order is not None and len(shape) <= 8:
                paper = paper_of(shape, order)
                whole, evens = wholly(shape, paper), all_even(shape)
                self.assertEqual([some for some in evens if not some & set(whole)], [set()])
                for k in whole:
                    told = [sorted(some) for some in evens if some & set(whole) == {k}]
                    self.assertEqual([even_of(shape, paper, k)], told)

    def test_big_ones(self):
        many = 0
        for shape in MORE_SHAPES + FORTY_WIDE:
            order = samples.an_order(shape)
            if order is not None:
                many = max(many, self.check(shape, order))
        self.assertEqual(many, 39)

    def test_whatever_it_is(self):
        shape = samples.DOTS
        paper = paper_of(shape, [0, 1, 2, 3])
        for thing in [*NOTHINGS, 0, 4, 5, -1, -3, -4, FIGURES_60, "1", (1,), [1], {1: 1}]:
            self.refused(shape, paper, thing)
        # A truth is equal to a number, and the piece of this number is brought wholly.
        self.assertEqual(even_of(shape, paper, 1), [0, 1])
        self.refused(shape, paper, True)
        self.refused(shape, paper_of(shape, [1, 0, 2, 3]), False)

    def test_no_piece_brought_wholly(self):
        for shape in (samples.DOT, samples.ROW, samples.FAN):
            paper = paper_of(shape, samples.an_order(shape))
            for k in range(-1, len(shape) + 1):
                self.refused(shape, paper, k)


class OwnTest(unittest.TestCase):
    def test_what_is_handed_in_stays(self):
        numbers = [3, 0, 2, 1]
        is_even(samples.RING, numbers)
        self.assertEqual(numbers, [3, 0, 2, 1])
        paper = paper_of(samples.RING, [0, 1, 2, 3])
        kept = list(paper)
        even_of(samples.RING, paper, 3)
        self.assertEqual(paper, kept)

    def test_the_lists_are_the_askers_own(self):
        found = even_sets(samples.DOTS)
        found[0].append("more")
        found.pop()
        self.assertEqual(found[1], [1, 3])
        self.assertEqual(even_sets(samples.DOTS), [[0, 3], [1, 3], [2, 3]])
        paper = paper_of(samples.RING, [0, 1, 2, 3])
        told = even_of(samples.RING, paper, 3)
        told.clear()
        self.assertEqual(even_of(samples.RING, paper, 3), [0, 1, 2, 3])


if __name__ == "__main__":
    unittest.main()
