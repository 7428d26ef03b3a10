"""Points 2 and 18: closed shapes, rims, and orders turned about."""

import unittest

import samples
from checks import Checks
from samples import MORE_SHAPES
from wholesides.closed import at_most_two, is_closed, rim, turned
from wholesides.counts import brought_counts
from wholesides.errors import NoShape, NotClosed, TooMany
from wholesides.papers import lets_by, order_in, paper_of
from wholesides.shapes import is_shape


def orders_of(shape):
    """All orders of a small shape, one at most of a bigger one."""
    if len(shape) <= 6:
        return samples.all_orders(shape)
    order = samples.an_order(shape)
    return [] if order is None else [order]


class ClosedTest(unittest.TestCase):
    def test_closed_ones(self):
        for shape in samples.CLOSED:
            self.assertIs(is_closed(shape), True)
            self.assertIs(at_most_two(shape), True)

    def test_open_ones(self):
        for shape in (samples.STICK, samples.ROW, samples.TWO, samples.FAN, samples.BAND, samples.RING[:3],
                      samples.SOLID_RIM[1:], samples.SEVEN_RIM[:6], samples.FORTY_ROW, samples.DOT):
            self.assertIs(is_closed(shape), False)
            self.assertIs(at_most_two(shape), True)

    def test_more_than_two(self):
        for shape in (samples.DOTS, samples.TWELVE_STAR, samples.TWELVE_FANS, samples.RING + ((0, 2),),
                      samples.CROSSED + ((0, 1, 2),), samples.FORTY_DOTS):
            self.assertIs(is_closed(shape), False)
            self.assertIs(at_most_two(shape), False)

    def test_pieces_of_one_corner(self):
        dots = samples.FORTY_DOTS
        self.assertEqual([is_closed(dots[:many]) for many in (1, 2, 3, 4)], [False, True, False, False])
        self.assertEqual([at_most_two(dots[:many]) for many in (1, 2, 3, 4)], [True, True, False, False])

    def test_all_shapes(self):
        for shape in MORE_SHAPES:
            counted = samples.plain_sides(shape).values()
            self.assertIs(is_closed(shape), all(many == 2 for many in counted))
            self.assertIs(at_most_two(shape), all(many <= 2 for many in counted))

    def test_brought_counts_are_alike_from_both_ends(self):
        for shape in samples.CLOSED:
            if samples.an_order(shape) is not None:
                self.assertEqual(brought_counts(shape), brought_counts(shape)[::-1])


class RimTest(Checks):
    def test_by_hand(self):
        self.assertEqual(rim(samples.STICK), ((1,), (0,)))
        self.assertEqual(rim(samples.ROW), ((0,), (4,)))
        self.assertEqual(rim(samples.TWO), ((0, 2), (0, 1), (2, 3), (1, 3)))
        self.assertEqual(rim(samples.TWO[::-1]), ((2, 3), (1, 3), (0, 2), (0, 1)))
        self.assertEqual(rim(samples.SOLID_RIM[:3]), ((1, 2), (1, 3), (2, 3)))
        self.assertEqual(rim(samples.FORTY_ROW), ((0,), (40,)))

    def test_none(self):
        for shape in samples.CLOSED[1:]:
            self.assertIsNone(rim(shape))
        self.assertIsNone(rim(samples.CROSSED + ((0, 1, 2),)))

    def test_sides_in_three_are_left_out(self):
        shape = ((0, 1, 2), (0, 1, 3), (0, 1, 4))
        self.assertEqual(rim(shape), ((1, 2), (0, 2), (1, 3), (0, 3), (1, 4), (0, 4)))

    def test_all_shapes(self):
        for shape in MORE_SHAPES:
            lone = tuple(side for side, many in samples.plain_sides(shape).items() if many == 1)
            if len(shape[0]) == 1:
                self.refused(NoShape, rim, shape)
            elif len(lone) > 40:
                self.refused(TooMany, rim, shape)
            else:
                self.assertEqual(rim(shape), lone or None)
                self.assertTrue(not lone or is_shape(rim(shape)))

    def test_pieces_of_one_corner(self):
        for shape in (samples.DOT, samples.TWO_DOTS, samples.DOTS, samples.FORTY_DOTS):
            self.refused(NoShape, rim, shape)

    def test_forty_and_more(self):
        apart = tuple((4 * k, 4 * k + 1, 4 * k + 2, 4 * k + 3) for k in range(11))
        self.assertEqual(len(rim(apart[:10])), 40)
        self.refused(TooMany, rim, apart)
        self.refused(TooMany, rim, samples.FORTY_SIX_APART)
        sticks = tuple((2 * k, 2 * k + 1) for k in range(21))
        self.assertEqual(len(rim(sticks[:20])), 40)
        self.refused(TooMany, rim, sticks)

    def test_the_rim_of_a_shape_with_an_order(self):
        for shape in MORE_SHAPES:
            size, order = len(shape[0]), samples.an_order(shape)
            lone = [side for side, many in samples.plain_sides(shape).items() if many == 1]
            if size > 1 and order is not None and at_most_two(shape) and len(lone) <= 40:
                self.assertTrue(rim(shape) is None or is_closed(rim(shape)))


class TurnedTest(Checks):
    def test_by_hand(self):
        self.assertEqual(turned(samples.TWO_DOTS, [(0, ()), (1, (2,))]), [(1, ()), (0, (4,))])
        paper = [(0, ()), (1, (2,)), (2, (3,)), (3, (0, 3))]
        self.assertEqual(turned(samples.RING, paper), [(3, ()), (2, (2,)), (1, (1,)), (0, (0, 1))])

    def test_all_orders(self):
        tried = 0
        for shape in samples.CLOSED:
            for order in orders_of(shape):
                paper = paper_of(shape, order)
                back = turned(shape, paper)
                self.assertEqual(order_in(back), order[::-1])
                self.assertEqual(back, paper_of(shape, order[::-1]))
                self.assertTrue(lets_by(shape, back))
                self.assertEqual(turned(shape, back), paper)
                tried += 1
        self.assertGreater(tried, 700)

    def test_not_closed(self):
        for shape in MORE_SHAPES:
            order = samples.an_order(shape)
            if order is not None and not samples.plain_closed(shape):
                self.refused(NotClosed, turned, shape, paper_of(shape, order))

    def test_lone_and_many_dots(self):
        self.refused(NotClosed, turned, samples.DOT, [(0, ())])
        self.refused(NotClosed, turned, samples.DOTS, paper_of(samples.DOTS, [0, 1, 2, 3]))


class OwnTest(unittest.TestCase):
    def test_the_paper_stays_and_is_the_askers_own(self):
        paper = paper_of(samples.RING, [0, 1, 2, 3])
        kept = list(paper)
        told = turned(samples.RING, paper)
        self.assertEqual(paper, kept)
        again = list(told)
        paper.clear()
        self.assertEqual(told, again)
        told.append("more")
        self.assertEqual(turned(samples.RING, kept), again)


if __name__ == "__main__":
    unittest.main()
