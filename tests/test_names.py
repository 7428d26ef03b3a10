"""Points 2 and 22: corners called otherwise."""

import random
import unittest

import barsamples
import samples
from checks import Checks
from samples import FIGURES_30, plain_paper
from wholesides.bars import bars
from wholesides.counts import brought_counts
from wholesides.errors import NoCorner
from wholesides.names import renamed, renamed_bar, renamed_paper
from wholesides.papers import lets_by
from wholesides.shapes import is_shape

SHAPES = samples.MORE_SHAPES + [shape for shape, order in samples.GROWN]
TURNED = {k: -k for k in range(-300, 301)}


def corners_of(shape):
    return sorted({corner for piece in shape for corner in piece})


def plain_face(face, names):
    return tuple(sorted(names[corner] if corner in names else corner for corner in face))


def backwards(names):
    return {new: old for old, new in names.items()}


class RenamedTest(Checks):
    def test_by_hand(self):
        self.assertEqual(self.told(renamed, samples.FAN, {2: -5}), ((-5, 0, 1), (-5, 3, 4), (-5, 1, 3)))
        self.assertEqual(self.told(renamed, samples.FAN, {}), samples.FAN)
        self.assertEqual(self.told(renamed, samples.FAN, {1: 2, 2: 1}), ((0, 1, 2), (1, 3, 4), (1, 2, 3)))
        self.assertEqual(self.told(renamed, samples.DOTS, {3: 8, 8: 0, 0: 3}), ((8,), (-1,), (3,), (0,)))
        self.assertEqual(renamed(samples.STICK, {0: FIGURES_30, 1: -FIGURES_30}), ((-FIGURES_30, FIGURES_30),))

    def test_names_that_nothing_has(self):
        self.assertEqual(self.told(renamed, samples.STICK, {7: 0, 8: 1, 9: 9, 10: 9}), samples.STICK)
        self.assertEqual(self.told(renamed, samples.STICK, {7: 0, 0: 5}), ((1, 5),))

    def test_all_shapes(self):
        for seed, shape in enumerate(SHAPES):
            names = samples.far_names(shape, seed)
            made = self.told(renamed, shape, names)
            self.assertEqual(made, tuple(plain_face(piece, names) for piece in shape))
            self.assertTrue(is_shape(made))
            self.assertEqual(renamed(made, backwards(names)), shape)
            self.assertEqual(brought_counts(made), brought_counts(shape))

    def test_some_corners_keep_their_names(self):
        dice = random.Random(2)
        for shape in SHAPES:
            old = corners_of(shape)
            some = dice.sample(old, dice.randint(0, len(old)))
            turned_about = dict(zip(some, some[1:] + some[:1]))
            made = self.told(renamed, shape, turned_about)
            self.assertEqual(made, tuple(plain_face(piece, turned_about) for piece in shape))

    def test_no_corner(self):
        self.refused(NoCorner, renamed, samples.FAN, {0: 4})
        self.refused(NoCorner, renamed, samples.FAN, {0: 9, 4: 9})
        self.refused(NoCorner, renamed, samples.FAN, {0: 4, 4: 3, 3: 2, 2: 1})
        self.refused(NoCorner, renamed, samples.STICK, {0: 1})
        self.refused(NoCorner, renamed, samples.DOTS, {3: FIGURES_30, 8: FIGURES_30})
        self.refused(NoCorner, renamed, samples.STICKS_APART, {0: 2})

    def test_just_where_two_become_one(self):
        dice = random.Random(3)
        refused = 0
        for shape in SHAPES:
            old = corners_of(shape)
            for _ in range(6):
                names = {dice.choice(old + [77, 78]): dice.choice(old + [77, 10 ** 29]) for _ in range(3)}
                new = {names.get(corner, corner) for corner in old}
                if len(new) < len(old):
                    self.refused(NoCorner, renamed, shape, names)
                    refused += 1
                else:
                    self.assertEqual(renamed(shape, names), tuple(plain_face(piece, names) for piece in shape))
        self.assertGreater(refused, 100)


class RenamedPaperTest(Checks):
    def test_by_hand(self):
        paper = [(1, ()), (2, (1,)), (0, (0,))]
        self.assertEqual(self.told(renamed_paper, paper, {1: 9, 5: 0}), [(1, ()), (2, (9,)), (0, (0,))])
        paper = [(0, ()), (1, (2,)), (2, (3,)), (3, (0, 3))]
        self.assertEqual(self.told(renamed_paper, paper, {3: -FIGURES_30})[2:], [(2, (-FIGURES_30,)), (3, (-FIGURES_30, 0))])

    def test_papers_go_along(self):
        for seed, (shape, order) in enumerate(samples.ordered()):
            names = samples.far_names(shape, seed)
            paper = plain_paper(shape, order)
            made = self.told(renamed_paper, paper, names)
            self.assertEqual(made, [(k, plain_face(brought, names)) for k, brought in paper])
            self.assertTrue(lets_by(renamed(shape, names), made))
            self.assertEqual(renamed_paper(made, backwards(names)), paper)


class RenamedBarTest(Checks):
    def test_by_hand(self):
        for bar in (("apart", [0, 2]), ("counts", 3), ("unlike", 0), ("evens", [[0, 1], [1, 2]]), ("apart", [0])):
            self.same(self.told(renamed_bar, bar, TURNED), bar)
            inner = ("link", (2, 5), ("link", (0,), bar))
            self.same(self.told(renamed_bar, inner, TURNED), ("link", (-5, -2), ("link", (0,), bar)))
        sets = ("sets", [((), None), ((0, 1), (2, (1, 3, 8))), ((0,), (3, ())), ((3, 5), None)])
        told = ("sets", [((), None), ((0, 1), (2, (-8, -3, -1))), ((0,), (3, ())), ((3, 5), None)])
        self.same(self.told(renamed_bar, sets, TURNED), told)
        self.same(self.told(renamed_bar, ("link", (1, 2), sets), TURNED), ("link", (-2, -1), told))

    def test_numbers_are_no_corners(self):
        names = {k: 100 + k for k in range(20)}
        for bar in (("apart", [0, 2]), ("counts", 3), ("unlike", 1), ("evens", [[0, 1], [1, 2]])):
            self.same(renamed_bar(bar, names), bar)
        self.same(renamed_bar(("sets", [((1, 2), (3, (4, 5)))]), names), ("sets", [((1, 2), (3, (104, 105)))]))

    def test_bars_go_along(self):
        for seed, (shape, wish, bar) in enumerate(barsamples.RIGHT):
            names = samples.far_names(shape, seed)
            made = self.told(renamed_bar, bar, names)
            self.assertTrue(bars(renamed(shape, names), wish, made))
            self.same(renamed_bar(made, backwards(names)), bar)

    def test_five_links(self):
        bar = ("sets", [((), (0, (5, 6)))])
        for corner in range(5):
            bar = ("link", (corner, corner + 10), bar)
        told = ("sets", [((), (0, (-6, -5)))])
        for corner in range(5):
            told = ("link", (-corner - 10, -corner), told)
        self.same(self.told(renamed_bar, bar, TURNED), told)

    def test_names_that_nothing_has(self):
        bar = ("link", (1, 2), ("sets", [((), (0, (3,)))]))
        self.same(self.told(renamed_bar, bar, {9: 1, FIGURES_30: 2}), bar)


if __name__ == "__main__":
    unittest.main()
