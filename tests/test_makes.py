"""Points 2, 16 and 17: links, joins, sides and parts of shapes."""

import itertools
import random
import unittest

import samples
from checks import Checks
from samples import FIGURES_30, FIGURES_60, NOTHINGS, SHAPES
from wholesides.counts import brought_counts
from wholesides.errors import NoCorner, NoFace, NoPiece, NoShape, TooMany
from wholesides.makes import join, link, part, sides
from wholesides.orders import is_order
from wholesides.shapes import faces, is_shape


class LinkTest(Checks):
    def test_of_the_empty_face(self):
        for shape in SHAPES:
            self.assertEqual(link(shape, ()), shape)

    def test_of_a_corner(self):
        self.assertEqual(link(samples.FAN, (2,)), ((0, 1), (3, 4), (1, 3)))
        self.assertEqual(link(samples.FAN, (0,)), ((1, 2),))
        self.assertEqual(link(samples.RING, (0,)), ((1,), (3,)))
        self.assertEqual(link(samples.NAMES, (-FIGURES_30,)), ((0, FIGURES_30), (0, 5)))

    def test_of_a_side(self):
        self.assertEqual(link(samples.FAN, (1, 2)), ((0,), (3,)))
        self.assertEqual(link(samples.FAN, (0, 1)), ((2,),))
        self.assertEqual(link(samples.SEVEN_RIM, (0, 1, 2, 3, 5)), ((4,), (6,)))

    def test_every_face(self):
        for shape in samples.SMALL + samples.RANDOM + samples.TWELVES:
            size = len(shape[0])
            for face in faces(shape):
                if len(face) < size:
                    self.assertEqual(link(shape, face), samples.plain_link(shape, face))
                    self.assertTrue(is_shape(link(shape, face)))

    def test_a_piece(self):
        for shape in SHAPES:
            for piece in shape:
                self.refused(NoFace, link, shape, piece)

    def test_what_the_shape_has_not(self):
        for face in ((5,), (0, 3), (0, 1, 3), (0, 1, 4), (0, 1, 2, 3), (0, 1, 2, 3, 4, 5), (-1,), (FIGURES_30,)):
            self.refused(NoFace, link, samples.FAN, face)
        self.refused(NoFace, link, samples.DOT, (8,))
        self.refused(NoFace, link, samples.STICKS_APART, (0, 2))

    def test_orders_of_links(self):
        for shape in samples.SMALL + samples.RANDOM:
            order = samples.an_order(shape)
            for face in faces(shape):
                if order is not None and len(face) < len(shape[0]):
                    held = [k for k, piece in enumerate(shape) if set(face) <= set(piece)]
                    inner = [held.index(k) for k in order if k in held]
                    self.assertTrue(is_order(link(shape, face), inner))


class JoinTest(Checks):
    def test_by_hand(self):
        self.assertEqual(join(((0,),), ((1,),)), ((0, 1),))
        self.assertEqual(join(((5,), (2,)), ((3, 4), (1, 9))), ((3, 4, 5), (1, 5, 9), (2, 3, 4), (1, 2, 9)))
        self.assertEqual(join(((3, 4), (1, 9)), ((5,), (2,))), ((3, 4, 5), (2, 3, 4), (1, 5, 9), (1, 2, 9)))
        self.assertEqual(join(((-FIGURES_30,),), ((FIGURES_30,),)), ((-FIGURES_30, FIGURES_30),))

    def test_all_in_the_told_order(self):
        for one, other in itertools.product(samples.SMALL, repeat=2):
            other = tuple(tuple(corner + 10 ** 20 for corner in piece) for piece in other)
            if max(max(piece) for piece in one) > 10 ** 20 or max(max(piece) for piece in other) > FIGURES_30:
                continue
            if len(one) * len(other) > 40 or len(one[0]) + len(other[0]) > 6:
                self.refused(TooMany, join, one, other)
                continue
            joined = join(one, other)
            self.assertTrue(is_shape(joined))
            self.assertEqual(len(joined), len(one) * len(other))
            for at, piece in enumerate(joined):
                mine, added = one[at // len(other)], other[at % len(other)]
                self.assertEqual(piece, tuple(sorted(mine + added)))

    def test_a_lone_corner_keeps_the_orders(self):
        for shape in (samples.FAN, samples.RING, samples.BOW):
            self.assertEqual(samples.all_orders(join(shape, ((50,),))), samples.all_orders(shape))
            self.assertEqual(samples.all_orders(join(((-50,),), shape)), samples.all_orders(shape))

    def test_an_order_by_both(self):
        one, other = samples.ROW, ((10, 11), (11, 12), (10, 12))
        for first, second in itertools.product(samples.all_orders(one), samples.all_orders(other)):
            self.assertTrue(is_order(join(one, other), [3 * j + k for j in first for k in second]))

    def test_no_corner(self):
        self.refused(NoCorner, join, samples.FAN, samples.FAN)
        self.refused(NoCorner, join, ((0,), (1,)), ((2,), (1,)))
        self.refused(NoCorner, join, ((0, 5),), ((5, 9),))

    def test_too_many_pieces(self):
        dots = tuple((k,) for k in range(100, 106))
        self.assertEqual(len(join(dots[:5], samples.FORTY_DOTS[:8])), 40)
        self.refused(TooMany, join, dots, samples.FORTY_DOTS[:7])
        self.refused(TooMany, join, dots[:2], samples.FORTY_DOTS[:21])
        self.refused(TooMany, join, samples.FORTY_DOTS, dots[:2])
        self.assertEqual(len(join(samples.FORTY_DOTS, dots[:1])), 40)

    def test_too_many_corners(self):
        self.assertEqual(join(((0, 1, 2),), ((3, 4, 5),)), ((0, 1, 2, 3, 4, 5),))
        self.assertEqual(join(((0,),), ((1, 2, 3, 4, 5),)), ((0, 1, 2, 3, 4, 5),))
        self.refused(TooMany, join, ((0, 1, 2),), ((3, 4, 5, 6),))
        self.refused(TooMany, join, ((0, 1, 2, 3, 4, 5),), ((6,),))
        self.refused(TooMany, join, samples.SEVEN_RIM, ((70, 71, 72, 73, 74, 75),))

    def test_both_at_once(self):
        self.refused(NoCorner, join, samples.FORTY_DOTS, samples.FORTY_DOTS)
        self.refused(NoCorner, join, samples.FORTY_SIXES, ((0,),))
        self.refused(NoCorner, join, samples.FORTY_SIXES, samples.FORTY_SIXES)
        self.refused(TooMany, join, samples.FORTY_SIXES, samples.FORTY_DOTS[30:])


class SidesTest(Checks):
    def test_by_hand(self):
        self.assertEqual(sides(samples.STICK), ((1,), (0,)))
        self.assertEqual(sides(samples.ROW), ((1,), (0,), (2,), (3,), (4,)))
        self.assertEqual(sides(samples.TWO), ((1, 2), (0, 2), (0, 1), (2, 3), (1, 3)))
        self.assertEqual(sides(samples.TWO[::-1]), ((2, 3), (1, 3), (1, 2), (0, 2), (0, 1)))

    def test_each_once_as_they_come(self):
        for shape in SHAPES:
            size = len(shape[0])
            told = list(samples.plain_sides(shape))
            if size == 1:
                self.refused(NoShape, sides, shape)
            elif len(told) > 40:
                self.refused(TooMany, sides, shape)
            else:
                self.assertEqual(sides(shape), tuple(told))
                self.assertTrue(is_shape(sides(shape)))

    def test_forty_and_more(self):
        self.assertEqual(len(sides(samples.FORTY_ROW[:39])), 40)
        self.refused(TooMany, sides, samples.FORTY_ROW)
        apart = tuple((4 * k, 4 * k + 1, 4 * k + 2, 4 * k + 3) for k in range(11))
        self.assertEqual(len(sides(apart[:10])), 40)
        self.refused(TooMany, sides, apart)

    def test_pieces_of_one_corner(self):
        for shape in (samples.DOT, samples.DOTS, samples.FORTY_DOTS):
            self.refused(NoShape, sides, shape)

    def test_brought_counts_of_sides(self):
        # A side for each corner that isn't in what the piece brings, which brings more by those left out ahead.
        for shape in (samples.FAN, samples.RING, samples.SOLID_RIM, samples.SIX_RIM):
            brought = brought_counts(shape)
            size = len(shape[0])
            told = [sum(brought[:k + 1]) for k in range(size)]
            self.assertEqual(brought_counts(sides(shape)), told)


class PartTest(Checks):
    def test_in_the_list_s_order(self):
        self.assertEqual(part(samples.FAN, [2, 0]), ((1, 2, 3), (0, 1, 2)))
        self.assertEqual(part(samples.FAN, [1]), ((2, 3, 4),))
        dice = random.Random(2)
        for shape in SHAPES:
            numbers = list(range(len(shape)))
            self.assertEqual(part(shape, numbers), shape)
            dice.shuffle(numbers)
            numbers = numbers[:dice.randint(1, len(shape))]
            self.assertEqual(part(shape, numbers), tuple(shape[k] for k in numbers))
            self.assertTrue(is_shape(part(shape, numbers)))

    def test_an_empty_list(self):
        for shape in SHAPES:
            self.refused(NoPiece, part, shape, [])

    def test_a_number_twice(self):
        for numbers in ([0, 0], [1, 2, 1], [0, 1, 2, 2], [2] * 300):
            self.refused(NoPiece, part, samples.FAN, numbers)

    def test_one_that_is_none(self):
        for thing in [*NOTHINGS, -1, -2, -3, 3, 4, 40, FIGURES_60, -FIGURES_60, "0", (0,), [0], (), []]:
            for numbers in ([thing], [0, thing], [thing, 2], [1, thing, 0]):
                self.refused(NoPiece, part, samples.FAN, numbers)

    def test_truths(self):
        self.refused(NoPiece, part, samples.FAN, [True])
        self.refused(NoPiece, part, samples.FAN, [False])
        self.refused(NoPiece, part, samples.FAN, [0, True])

    def test_what_is_no_list(self):
        for thing in (None, True, 0, "0", (0,), {0: 1}):
            self.refused(NoPiece, part, samples.FAN, thing)


class OwnTest(unittest.TestCase):
    def test_what_is_handed_in_stays(self):
        numbers = [2, 0]
        told = part(samples.FAN, numbers)
        self.assertEqual(numbers, [2, 0])
        numbers.clear()
        self.assertEqual(told, ((1, 2, 3), (0, 1, 2)))

    def test_plain_tuples_are_told(self):
        made = [link(samples.FAN, (2,)), join(samples.DOTS, ((50, 51),)), sides(samples.FAN), part(samples.FAN, [2, 1])]
        for shape in made:
            self.assertIs(type(shape), tuple)
            self.assertTrue(all(type(piece) is tuple for piece in shape))


if __name__ == "__main__":
    unittest.main()
