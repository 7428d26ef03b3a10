"""Points 2, 16 and 17: papers of links, joins, sides and first pieces, and a join's paper split."""

import itertools
import random
import unittest

import samples
from checks import Checks
from samples import FIGURES_30, FIGURES_60, NOTHINGS, plain_paper
from wholesides.carried import begun, join_paper, link_paper, sides_paper, split_paper
from wholesides.errors import NoCorner, NoFace, NoPiece, NoShape, TooMany
from wholesides.makes import join, link, part, sides
from wholesides.papers import lets_by, order_in, paper_of

ORDERED = list(samples.ordered())


def moved(shape, by=1000):
    """The shape with all corners moved up, so that it has none in common with small ones."""
    return tuple(tuple(corner + by for corner in piece) for piece in shape)


def near(shape):
    return all(abs(corner) < 100 for piece in shape for corner in piece)


def a_random_order(shape, dice):
    """An order laid at random, None where this gets stuck."""
    whole = [set(piece) for piece in shape]
    order = []
    while len(order) < len(shape):
        laid = [whole[k] for k in order]
        free = [k for k in range(len(shape)) if k not in order and samples.meets_well(laid, whole[k])]
        if not free:
            return None
        order.append(dice.choice(free))
    return order


class LinkPaperTest(Checks):
    def test_by_hand(self):
        paper = [(1, ()), (2, (1,)), (0, (0,))]
        self.assertTrue(lets_by(samples.FAN, paper))
        self.assertEqual(self.told(link_paper, samples.FAN, paper, (2,)), [(1, ()), (2, (1,)), (0, (0,))])
        self.assertEqual(self.told(link_paper, samples.FAN, paper, (1,)), [(1, ()), (0, (0,))])
        self.assertEqual(self.told(link_paper, samples.FAN, paper, (1, 2)), [(1, ()), (0, (0,))])
        self.assertEqual(self.told(link_paper, samples.FAN, paper, (0,)), [(0, ())])
        self.assertEqual(self.told(link_paper, samples.FAN, paper, ()), paper)

    def test_all_faces(self):
        for shape, order in ORDERED:
            paper = plain_paper(shape, order)
            for face in {face for piece in shape for face in samples.subsets(piece)}:
                if len(face) == len(shape[0]):
                    continue
                held = [k for k in range(len(shape)) if set(face) <= set(shape[k])]
                rows = [(held.index(k), tuple(sorted(set(brought) - set(face)))) for k, brought in paper if k in held]
                self.assertEqual(link_paper(shape, paper, face), rows)

    def test_each_is_a_paper_of_the_link(self):
        dice = random.Random(5)
        for shape, order in ORDERED:
            paper = plain_paper(shape, order)
            lesser = sorted({face for piece in shape for face in samples.subsets(piece) if len(face) < len(piece)})
            for face in dice.sample(lesser, min(4, len(lesser))):
                made = self.told(link_paper, shape, paper, face)
                self.assertTrue(lets_by(link(shape, face), made))

    def test_no_face(self):
        paper = plain_paper(samples.FAN, [0, 2, 1])
        for face in ((0, 1, 2), (1, 2, 3), (0, 3), (5,), (-1,), (0, 1, 2, 3), (0, 1, 2, 3, 4, 5), (FIGURES_30,)):
            self.refused(NoFace, link_paper, samples.FAN, paper, face)
        self.refused(NoFace, link_paper, samples.DOT, [(0, ())], (7,))
        self.refused(NoFace, link_paper, samples.DOT, [(0, ())], (8,))
        for shape, order in samples.GROWN:
            for piece in shape:
                self.refused(NoFace, link_paper, shape, plain_paper(shape, order), piece)


class JoinPaperTest(Checks):
    def pairs(self):
        """Two shapes with an order each, whose join is one."""
        near_ones = [(shape, order) for shape, order in ORDERED if near(shape) and len(shape) <= 20]
        near_ones = random.Random(8).sample(near_ones, 45)
        for (one, first), (other, second) in itertools.product(near_ones, repeat=2):
            if len(one) * len(other) <= 40 and len(one[0]) + len(other[0]) <= 6:
                yield one, first, moved(other), second

    def test_by_hand(self):
        one, other = ((0, 1), (1, 2)), ((8,), (5,), (9,))
        paper, second = [(1, ()), (0, (0,))], [(2, ()), (0, (8,)), (1, (5,))]
        rows = [(5, ()), (3, (8,)), (4, (5,)), (2, (0,)), (0, (0, 8)), (1, (0, 5))]
        self.assertEqual(self.told(join_paper, one, other, paper, second), rows)
        rows = [(5, ()), (4, (0,)), (1, (8,)), (0, (0, 8)), (3, (5,)), (2, (0, 5))]
        self.assertEqual(self.told(join_paper, other, one, second, paper), rows)

    def test_what_is_brought_rises(self):
        one, other = ((-FIGURES_30,), (5,)), ((-5,), (FIGURES_30,))
        made = join_paper(one, other, [(1, ()), (0, (-FIGURES_30,))], [(1, ()), (0, (-5,))])
        self.assertEqual(made, [(3, ()), (2, (-5,)), (1, (-FIGURES_30,)), (0, (-FIGURES_30, -5))])
        made = join_paper(other, one, [(0, ()), (1, (FIGURES_30,))], [(0, ()), (1, (5,))])
        self.assertEqual(made, [(0, ()), (1, (5,)), (2, (FIGURES_30,)), (3, (5, FIGURES_30))])

    def test_pairs(self):
        tried = 0
        for one, first, other, second in self.pairs():
            paper, more = plain_paper(one, first), plain_paper(other, second)
            made = join_paper(one, other, paper, more)
            rows = [(j * len(other) + k, tuple(sorted({*mine, *others}))) for j, mine in paper for k, others in more]
            self.assertEqual(made, rows)
            self.assertTrue(lets_by(join(one, other), made))
            tried += 1
        self.assertGreater(tried, 300)

    def test_forty_pieces_of_six_corners(self):
        one = tuple((-FIGURES_30, k, k + 1) for k in range(8))
        other = tuple(tuple(sorted((k, 10 ** 29, FIGURES_30))) for k in (50, -50, 10 ** 28, -10 ** 28, 51))
        first, second = [4, 5, 3, 2, 6, 7, 1, 0], [3, 0, 4, 2, 1]
        made = self.told(join_paper, one, other, plain_paper(one, first), plain_paper(other, second))
        self.assertEqual(len(made), 40)
        self.assertTrue(lets_by(join(one, other), made))

    def test_refused_as_the_join(self):
        dot = [(0, ())]
        dots = tuple((k,) for k in range(100, 106))
        fan = plain_paper(samples.FAN, [0, 2, 1])
        forty = plain_paper(samples.FORTY_DOTS, list(range(40)))
        for ask in (join_paper, lambda one, other, paper, second: split_paper(one, other, paper)):
            self.refused(NoCorner, ask, samples.FAN, samples.FAN, fan, fan)
            self.refused(NoCorner, ask, ((0, 5),), ((5, 9),), dot, dot)
            self.refused(NoCorner, ask, samples.FORTY_DOTS, samples.FORTY_DOTS, forty, forty)
            self.refused(NoCorner, ask, ((0, 1, 2, 3, 4, 5),), ((5,),), dot, dot)
            self.refused(TooMany, ask, samples.FORTY_DOTS, dots[:2], forty, plain_paper(dots[:2], [0, 1]))
            self.refused(TooMany, ask, dots[:2], samples.FORTY_DOTS[:21], plain_paper(dots[:2], [0, 1]), forty[:21])
            self.refused(TooMany, ask, ((0, 1, 2),), ((3, 4, 5, 6),), dot, dot)
            self.refused(TooMany, ask, ((0, 1, 2, 3, 4, 5),), ((6,),), dot, dot)
            self.refused(TooMany, ask, ((50, 51, 52, 53, 54, 55),), samples.FORTY_DOTS, dot, forty)


class SplitPaperTest(Checks):
    def split_right(self, one, other, order):
        """The papers of a join's order, told by its pieces' first comings."""
        joined = join(one, other)
        both = split_paper(one, other, plain_paper(joined, order))
        self.assertIs(type(both), tuple)
        mine, others = [], []
        for number in order:
            j, k = divmod(number, len(other))
            mine += [] if j in mine else [j]
            others += [] if k in others else [k]
        self.assertEqual(both, (plain_paper(one, mine), plain_paper(other, others)))
        self.assertTrue(lets_by(one, both[0]))
        self.assertTrue(lets_by(other, both[1]))

    def test_by_hand(self):
        one, other = ((0, 1), (1, 2)), ((8,), (5,), (9,))
        paper = paper_of(join(one, other), [4, 1, 5, 2, 3, 0])
        both = ([(1, ()), (0, (0,))], [(1, ()), (2, (9,)), (0, (8,))])
        self.assertEqual(self.told(split_paper, one, other, paper), both)
        paper = paper_of(join(other, one), [1, 3, 0, 2, 5, 4])
        both = ([(0, ()), (1, (5,)), (2, (9,))], [(1, ()), (0, (0,))])
        self.assertEqual(self.told(split_paper, other, one, paper), both)

    def test_all_orders_of_small_joins(self):
        tried = 0
        smalls = [((0,),), ((0,), (1,)), ((2,), (0,), (1,)), samples.STICK, samples.ROW[:2], samples.TRIANGLE_RIM,
                  samples.TWO, samples.FAN]
        for one, other in itertools.product(smalls, repeat=2):
            if len(one) * len(other) <= 6 and len(one[0]) + len(other[0]) <= 6:
                for order in samples.all_orders(join(one, moved(other))):
                    self.split_right(one, moved(other), order)
                    tried += 1
        self.assertGreater(tried, 1000)

    def test_random_orders_of_bigger_joins(self):
        dice = random.Random(4)
        tried = 0
        for one, other in ((samples.ROW, samples.RING), (samples.SOLID_RIM, samples.TRIANGLE_RIM),
                           (samples.SOLID_RIM, samples.FAN), (samples.DOTS, samples.SIX_RIM),
                           (samples.EIGHT, samples.RING), (samples.TWELVE_ROW, samples.TRIANGLE_RIM),
                           (samples.FORTY_DOTS[:5], samples.EIGHT), (samples.FORTY_DOTS, samples.STICK)):
            for _ in range(6):
                order = a_random_order(join(one, moved(other)), dice)
                if order is not None:
                    self.split_right(one, moved(other), order)
                    tried += 1
        self.assertGreater(tried, 30)

    def test_back_from_the_join(self):
        for one, other in itertools.product((samples.DOT, samples.ROW, samples.RING, samples.FAN), repeat=2):
            mine = plain_paper(one, samples.an_order(one))
            others = plain_paper(moved(other), samples.an_order(other))
            joined = join_paper(one, moved(other), mine, others)
            self.assertEqual(split_paper(one, moved(other), joined), (mine, others))


class SidesPaperTest(Checks):
    def test_by_hand(self):
        self.assertEqual(sides(samples.TWO), ((1, 2), (0, 2), (0, 1), (2, 3), (1, 3)))
        rows = [(0, ()), (1, (0,)), (2, (0, 1)), (3, (3,)), (4, (1, 3))]
        self.assertEqual(self.told(sides_paper, samples.TWO, [(0, ()), (1, (3,))]), rows)
        rows = [(3, ()), (4, (1,)), (0, (1, 2)), (1, (0,)), (2, (0, 1))]
        self.assertEqual(self.told(sides_paper, samples.TWO, [(1, ()), (0, (0,))]), rows)
        self.assertEqual(self.told(sides_paper, samples.STICK, [(0, ())]), [(0, ()), (1, (0,))])

    def test_a_piece_brought_wholly_has_no_new_side(self):
        made = self.told(sides_paper, samples.TRIANGLE_RIM, [(2, ()), (0, (0,)), (1, (0, 2))])
        self.assertEqual(sides(samples.TRIANGLE_RIM), ((1,), (0,), (2,)))
        self.assertEqual(made, [(2, ()), (0, (1,)), (1, (0,))])

    def test_all_rows(self):
        tried = 0
        for shape, order in ORDERED:
            paper = plain_paper(shape, order)
            found = list(samples.plain_sides(shape))
            if len(shape[0]) == 1:
                self.refused(NoShape, sides_paper, shape, paper)
            elif len(found) > 40:
                self.refused(TooMany, sides_paper, shape, paper)
            else:
                rows = []
                for k, brought in paper:
                    out = sorted(set(shape[k]) - set(brought))
                    for corner in out:
                        side = tuple(c for c in shape[k] if c != corner)
                        lesser = {c for c in out if c < corner}
                        rows.append((found.index(side), tuple(sorted(lesser | set(brought)))))
                self.assertEqual(sides_paper(shape, paper), rows)
                self.assertEqual(rows, plain_paper(tuple(found), [number for number, _ in rows]))
                self.assertTrue(lets_by(sides(shape), rows))
                tried += 1
        self.assertGreater(tried, 100)

    def test_forty_sides_and_more(self):
        row = samples.FORTY_ROW[:39]
        self.assertEqual(len(self.told(sides_paper, row, plain_paper(row, list(range(39))))), 40)
        self.refused(TooMany, sides_paper, samples.FORTY_ROW, plain_paper(samples.FORTY_ROW, list(range(40))))

    def test_pieces_of_one_corner(self):
        self.refused(NoShape, sides_paper, samples.DOT, [(0, ())])
        self.refused(NoShape, sides_paper, samples.FORTY_DOTS, plain_paper(samples.FORTY_DOTS, list(range(40))))


class BegunTest(Checks):
    def test_by_hand(self):
        paper = [(1, ()), (2, (1,)), (0, (0,))]
        self.assertEqual(self.told(begun, samples.FAN, paper, 1), (((2, 3, 4),), [(0, ())]))
        self.assertEqual(self.told(begun, samples.FAN, paper, 2), (((2, 3, 4), (1, 2, 3)), [(0, ()), (1, (1,))]))
        whole = (((2, 3, 4), (1, 2, 3), (0, 1, 2)), [(0, ()), (1, (1,)), (2, (0,))])
        self.assertEqual(self.told(begun, samples.FAN, paper, 3), whole)

    def test_all(self):
        for shape, order in ORDERED:
            paper = plain_paper(shape, order)
            for many in range(1, len(shape) + 1):
                made = begun(shape, paper, many)
                self.assertIs(type(made), tuple)
                first, rows = made
                self.assertEqual(first, tuple(shape[k] for k in order[:many]))
                self.assertEqual(first, part(shape, order[:many]))
                self.assertEqual(rows, [(place, brought) for place, (_, brought) in enumerate(paper[:many])])
            self.assertTrue(lets_by(first, rows))
            self.assertEqual(order_in(rows), list(range(len(shape))))

    def test_each_beginning_is_let_by(self):
        for shape, order in samples.GROWN:
            paper = plain_paper(shape, order)
            for many in {1, 2, len(shape) // 2, len(shape) - 1, len(shape)} - {0}:
                if many <= len(shape):
                    first, rows = self.told(begun, shape, paper, many)
                    self.assertTrue(lets_by(first, rows))

    def test_no_piece(self):
        wrong = [*NOTHINGS, 0, -1, -2, -3, FIGURES_60, -FIGURES_60, "1", (1,), [1], (), [], {}, {1: 1}]
        for shape, order in (ORDERED[0], (samples.FAN, [0, 2, 1]), samples.GROWN[4], samples.GROWN[-1]):
            paper = plain_paper(shape, order)
            for many in [*wrong, len(shape) + 1, len(shape) + 2, str(len(shape)), -len(shape)]:
                self.refused(NoPiece, begun, shape, paper, many)

    def test_truths(self):
        paper = plain_paper(samples.FAN, [0, 2, 1])
        self.refused(NoPiece, begun, samples.FAN, paper, True)
        self.refused(NoPiece, begun, samples.FAN, paper, False)
        self.refused(NoPiece, begun, samples.DOT, [(0, ())], True)


if __name__ == "__main__":
    unittest.main()
