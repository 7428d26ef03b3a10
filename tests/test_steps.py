"""Points 2 and 7: what a piece shares, whether it fits, what it brings."""

import itertools
import random
import unittest

import samples
from samples import SHAPES
from wholesides.faces import faces_in
from wholesides.steps import brings, fits, nexts, shared


def small_cases():
    """Each choice of laid pieces of the small shapes, with each piece that is not laid."""
    for shape in samples.SMALL + [samples.EIGHT] + samples.RANDOM[:30]:
        numbers = range(len(shape))
        for many in numbers:
            for laid in itertools.combinations(numbers, many):
                for k in numbers:
                    if k not in laid:
                        yield shape, list(laid), k


def big_cases():
    """Some choices of laid pieces of all shapes, in some order."""
    dice = random.Random(7)
    for shape in SHAPES:
        for _ in range(4):
            numbers = list(range(len(shape)))
            dice.shuffle(numbers)
            many = dice.randrange(len(shape))
            yield shape, numbers[:many], numbers[many]


class ByHandTest(unittest.TestCase):
    def check(self, shape, laid, k, greatest, brought):
        self.assertEqual(shared(shape, laid, k), greatest)
        self.assertIs(fits(shape, laid, k), brought is not None)
        self.assertEqual(brings(shape, laid, k), brought)
        self.assertEqual(k in nexts(shape, laid), brought is not None)

    def test_none_laid(self):
        for shape in SHAPES:
            self.check(shape, [], len(shape) - 1, [], ())
            self.assertEqual(nexts(shape, []), list(range(len(shape))))

    def test_pieces_of_one_corner(self):
        self.check(samples.DOTS, [0], 1, [()], (-1,))
        self.check(samples.DOTS, [2, 0, 1], 3, [()], (8,))
        self.assertEqual(nexts(samples.DOTS, [2, 0]), [1, 3])

    def test_no_corner_in_common(self):
        self.check(samples.STICKS_APART, [0], 1, [()], None)
        self.check(samples.TRIANGLES_APART, [1], 0, [()], None)
        self.assertEqual(nexts(samples.TRIANGLES_APART, [1]), [])

    def test_a_lone_corner_where_a_side_is_wanted(self):
        self.check(samples.BOW, [0], 1, [(2,)], None)
        self.assertEqual(nexts(samples.BOW, [0]), [])
        self.assertEqual(nexts(samples.FAN, [0]), [2])
        self.check(samples.FAN, [0, 2], 1, [(2, 3)], (4,))
        self.check(samples.FAN, [0, 1], 2, [(1, 2), (2, 3)], (1, 3))

    def test_a_side_and_a_lone_corner(self):
        shape = ((0, 1, 2), (3, 4, 5), (1, 2, 3))
        self.check(shape, [0], 2, [(1, 2)], (3,))
        self.check(shape, [0, 1], 2, [(1, 2), (3,)], None)

    def test_sticks(self):
        self.check(samples.ROW, [1], 2, [(2,)], (3,))
        self.check(samples.ROW, [1, 3], 2, [(2,), (3,)], (2, 3))
        self.check(samples.ROW, [0], 2, [()], None)
        self.check(samples.RING, [0, 1, 2], 3, [(0,), (3,)], (0, 3))

    def test_all_sides_of_one_face(self):
        self.check(samples.SOLID_RIM, [0], 1, [(0, 1)], (3,))
        self.check(samples.SOLID_RIM, [1, 0], 2, [(0, 2), (0, 3)], (2, 3))
        self.check(samples.SOLID_RIM, [1, 2, 0], 3, [(1, 2), (1, 3), (2, 3)], (1, 2, 3))
        self.assertEqual(nexts(samples.SOLID_RIM, [3]), [0, 1, 2])

    def test_the_rim_of_seven_corners(self):
        laid = []
        for k in (3, 0, 6, 2, 5, 1, 4):
            brought = brings(samples.SEVEN_RIM, laid, k)
            self.assertEqual(len(brought), len(laid))
            laid.append(k)

    def test_all_laid(self):
        for shape in samples.SMALL:
            self.assertEqual(nexts(shape, list(range(len(shape)))), [])

    def test_forty(self):
        self.check(samples.FORTY_ROW, list(range(39)), 39, [(39,)], (40,))
        self.check(samples.FORTY_SIX_APART, list(range(39)), 39, [()], None)
        self.check(samples.FORTY_DOTS, list(range(1, 40)), 0, [()], (0,))


class StepsTest(unittest.TestCase):
    def check(self, shape, laid, k):
        self.assertEqual(shared(shape, laid, k), samples.plain_shared(shape, laid, k) if laid else [])
        fit = samples.plain_fits(shape, laid, k)
        self.assertIs(fits(shape, laid, k), fit)
        brought = samples.plain_brings(shape, laid, k) if fit else None
        self.assertEqual(brings(shape, laid, k), brought)

    def test_small_ones(self):
        for shape, laid, k in small_cases():
            self.check(shape, laid, k)

    def test_big_ones(self):
        for shape, laid, k in big_cases():
            self.check(shape, laid, k)

    def test_nexts(self):
        for shape, laid, _ in big_cases():
            free = [k for k in range(len(shape)) if k not in laid]
            told = [k for k in free if samples.plain_fits(shape, laid, k)]
            self.assertEqual(nexts(shape, laid), told)

    def test_another_order_gives_the_same(self):
        for shape, laid, k in big_cases():
            for other in (sorted(laid), sorted(laid)[::-1], laid[1:] + laid[:1]):
                for ask in (shared, fits, brings):
                    self.assertEqual(ask(shape, other, k), ask(shape, laid, k))
                self.assertEqual(nexts(shape, other), nexts(shape, laid))

    def test_new_faces_hold_what_it_brings(self):
        for shape, laid, k in itertools.chain(small_cases(), big_cases()):
            brought = brings(shape, laid, k)
            if brought is None:
                continue
            pieces = [shape[j] for j in laid]
            for face in faces_in(shape[k]):
                self.assertEqual(not samples.plain_has(pieces, face), set(brought) <= set(face))


class OwnTest(unittest.TestCase):
    def test_what_is_handed_in_stays(self):
        for shape, laid, k in big_cases():
            kept = list(laid)
            shared(shape, laid, k), fits(shape, laid, k), brings(shape, laid, k), nexts(shape, laid)
            self.assertEqual(laid, kept)

    def test_the_lists_are_the_askers_own(self):
        for ask in (lambda: shared(samples.FAN, [0, 1], 2), lambda: nexts(samples.FAN, [2])):
            first = ask()
            kept = list(first)
            first.append("more")
            first[0] = "other"
            self.assertEqual(ask(), kept)

    def test_what_was_told_stays(self):
        laid = [0, 1]
        told = shared(samples.FAN, laid, 2)
        laid.clear()
        self.assertEqual(told, [(1, 2), (2, 3)])


if __name__ == "__main__":
    unittest.main()
