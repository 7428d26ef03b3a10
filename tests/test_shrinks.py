"""Points 2 and 21: shapes that shrink to a corner."""

import itertools
import random
import unittest

import samples
from checks import Checks
from samples import FIGURES_30, FIGURES_60, NOTHINGS, plain_paper
from wholesides.errors import NoPiece, NoShrink
from wholesides.shapes import faces
from wholesides.shrinks import left, shrinking

ORDERED = list(samples.ordered())


def plain_left(shape, taken, rows):
    """The faces left and None, or None and the number of the first wrong row, straight as point 21 says it."""
    kept = {face for piece in shape for face in samples.subsets(piece)} - {shape[k] for k in taken}
    for place, (small, greater) in enumerate(rows):
        holding = [face for face in kept if set(small) < set(face)]
        if small not in kept or small == () or holding != [greater] or len(greater) != len(small) + 1:
            return None, place
        kept -= {small, greater}
    return sorted(kept, key=lambda face: (len(face), face)), None


def wholly(shape, paper):
    return sorted(k for k, brought in paper if set(brought) == set(shape[k]))


class Shrinks(Checks):
    def looked_at(self, shape, taken, rows):
        """The same as the plain reckoning tells; whether all rows are right."""
        kept, place = plain_left(shape, taken, rows)
        if place is None:
            self.assertEqual(left(shape, taken, rows), kept)
        else:
            self.refused(NoShrink, left, shape, taken, rows, at=place)
        return place is None


class LeftTest(Shrinks):
    def test_by_hand(self):
        told = [(), (0,), (1,), (2,), (0, 1), (0, 2), (1, 2)]
        self.assertEqual(self.told(left, ((0, 1, 2),), [0], []), told)
        self.assertEqual(self.told(left, ((0, 1, 2),), [], []), told + [(0, 1, 2)])
        self.assertEqual(self.told(left, ((0, 1, 2),), [], [((0, 2), (0, 1, 2))]), [(), (0,), (1,), (2,), (0, 1), (1, 2)])
        rows = [((0, 2), (0, 1, 2)), ((0,), (0, 1)), ((2,), (1, 2))]
        self.assertEqual(self.told(left, ((0, 1, 2),), [], rows), [(), (1,)])
        self.assertEqual(self.told(left, samples.DOTS, [2, 0, 3], []), [(), (-1,)])
        self.assertEqual(self.told(left, samples.DOT, [0], []), [()])
        self.assertEqual(self.told(left, samples.DOT, [], []), [(), (7,)])

    def test_pieces_go_as_faces(self):
        for shape in samples.MORE_SHAPES:
            self.assertEqual(left(shape, [], []), faces(shape))
            for taken in ([0], list(range(len(shape))), list(range(len(shape)))[::-2]):
                gone = [shape[k] for k in taken]
                self.assertEqual(left(shape, taken, []), [face for face in faces(shape) if face not in gone])

    def test_by_size_then_rising(self):
        shape = samples.NAMES
        told = self.told(left, shape, [1], [((-3, 5), (-3, 5, FIGURES_30))])
        self.assertEqual(told, sorted(told, key=lambda face: (len(face), face)))
        self.assertEqual(told[:3], [(), (-FIGURES_30,), (-3,)])
        self.assertNotIn((-3, 5), told)

    def test_each_row_by_which_a_shape_may_begin_to_shrink(self):
        dice = random.Random(1)
        for shape in samples.SMALL + samples.RANDOM[:25]:
            known = sorted({face for piece in shape for face in samples.subsets(piece)})
            known += [(50,), (0, 50), (0, 1, 50), (-FIGURES_30, 0, FIGURES_30)]
            taken = dice.sample(range(len(shape)), dice.randint(0, len(shape)))
            pairs = list(itertools.product(known, repeat=2))
            for small, greater in dice.sample(pairs, min(1500, len(pairs))):
                self.looked_at(shape, taken, [(small, greater)])

    def test_all_pairs_of_a_small_shape(self):
        for shape in (samples.TWO, samples.RING, samples.DOTS, samples.PINCHED[:3]):
            known = faces(shape) + [(9,), (0, 9), (0, 1, 9)]
            for taken in ([], [0], [1, 0]):
                right = 0
                for row in itertools.product(known, repeat=2):
                    right += self.looked_at(shape, taken, [row])
                if shape == samples.TWO:
                    self.assertEqual(right, {0: 4, 1: 3, 2: 0}[len(taken)])

    def test_rows_that_are_not_as_told(self):
        triangle = ((0, 1, 2),)
        for row in (((), (0,)), ((), ()), ((0,), (0, 1)), ((0,), (0,)), ((0,), (0, 1, 2)), ((0, 1, 2), (0, 1, 2)),
                    ((0, 1, 2), (0, 1)), ((0, 1), (0, 2)), ((0, 1), (0, 1)), ((5,), (5, 6)), ((0, 5), (0, 1, 5)),
                    ((0, 1), (0, 1, 5)), ((0, 1), (0, 1, 2, 3)), ((0,), ())):
            self.refused(NoShrink, left, triangle, [], [row], at=0)
            self.refused(NoShrink, left, triangle, [], [row, ((0, 1), (0, 1, 2))], at=0)
        first = ((0, 1), (0, 1, 2))
        self.refused(NoShrink, left, triangle, [], [first, first], at=1)
        self.refused(NoShrink, left, triangle, [], [first, ((0,), (0, 1))], at=1)
        self.refused(NoShrink, left, triangle, [], [first, ((0,), (0, 2)), ((2,), (0, 2))], at=2)
        self.assertEqual(left(triangle, [], [first, ((0,), (0, 2))]), [(), (1,), (2,), (1, 2)])

    def test_the_last_corner_and_the_empty_face_stay(self):
        self.refused(NoShrink, left, samples.DOT, [], [((), (7,))], at=0)
        self.refused(NoShrink, left, samples.STICK, [], [((0,), (0, 1)), ((), (1,))], at=1)
        self.refused(NoShrink, left, samples.DOT, [0], [((7,), (7, 8))], at=0)
        self.refused(NoShrink, left, samples.DOT, [0], [((), ())], at=0)

    def test_a_face_that_is_held_by_others_too(self):
        self.refused(NoShrink, left, samples.TWO, [], [((1, 2), (0, 1, 2))], at=0)
        self.assertEqual(len(left(samples.TWO, [1], [((1, 2), (0, 1, 2))])), 9)
        self.refused(NoShrink, left, samples.RING, [], [((0,), (0, 1))], at=0)
        self.assertEqual(len(left(samples.RING, [3], [((0,), (0, 1))])), 6)

    def test_no_piece(self):
        wrong = [*NOTHINGS, -1, -3, 3, 4, 40, FIGURES_60, -FIGURES_60, "0", (0,), [0], (), []]
        for thing in wrong:
            for taken in ([thing], [0, thing], [thing, 2], [1, thing, 0]):
                self.refused(NoPiece, left, samples.FAN, taken, [])
        for taken in ([0, 0], [1, 2, 1], [2] * 300, [True], [False], [0, True]):
            self.refused(NoPiece, left, samples.FAN, taken, [])

    def test_no_piece_goes_first(self):
        for taken in ([3], [0, 0], [-1], [None], [True]):
            self.refused(NoPiece, left, samples.FAN, taken, [((), ())])
            self.refused(NoPiece, left, samples.FAN, taken, [((1, 2), (0, 1, 2)), ((9,), (9, 10))])

    def test_long_lists(self):
        shape = samples.FORTY_SIXES
        small = faces(shape)
        self.refused(NoShrink, left, shape, [], [(face, shape[0]) for face in small if len(face) < 5], at=0)
        known = {face for piece in shape for face in samples.subsets(piece)}
        self.assertEqual(len(left(shape, list(range(40)), [])), len(known) - 40)


class ShrinkingTest(Shrinks):
    def test_by_hand(self):
        self.assertEqual(self.told(shrinking, samples.DOT, [(0, ())]), ([], []))
        self.assertEqual(self.told(shrinking, samples.DOTS, plain_paper(samples.DOTS, [2, 3, 0, 1])), ([0, 1, 3], []))
        self.assertEqual(shrinking(samples.RING, plain_paper(samples.RING, [2, 1, 3, 0]))[0], [0])

    def test_to_one_corner(self):
        for shape, order in ORDERED:
            paper = plain_paper(shape, order)
            made = self.told(shrinking, shape, paper)
            self.assertIs(type(made), tuple)
            taken, rows = made
            self.assertEqual(taken, wholly(shape, paper))
            self.assertTrue(all(type(row) is tuple for row in rows))
            kept, place = plain_left(shape, taken, rows)
            self.assertIsNone(place)
            self.assertEqual([len(face) for face in kept], [0, 1])
            self.assertEqual(left(shape, taken, rows), kept)

    def test_forty_pieces_of_six_corners(self):
        shape = tuple(tuple(range(k, k + 6)) for k in range(40))
        taken, rows = shrinking(shape, plain_paper(shape, list(range(40))[::-1]))
        self.assertEqual((taken, len(rows)), ([], 655))
        self.assertEqual([len(face) for face in left(shape, taken, rows)], [0, 1])

    def test_with_one_thing_amiss(self):
        dice = random.Random(9)
        right = wrong = 0
        for shape, order in dice.sample(ORDERED, 80) + samples.GROWN[:30]:
            taken, rows = shrinking(shape, plain_paper(shape, order))
            for _ in range(12):
                changed, less = list(rows), list(taken)
                if less and dice.random() < 0.3:
                    less.remove(dice.choice(less))
                elif changed:
                    at = dice.randrange(len(changed))
                    small, greater = changed[at]
                    other = dice.choice(rows)
                    changed[at] = dice.choice([
                        (small, other[1]), (other[0], greater), other, (greater, small), (small, small), ((), small)])
                    if dice.random() < 0.3:
                        changed = rows[:at] + rows[at + 1:]
                    elif dice.random() < 0.3:
                        changed = rows[:at] + [other] + rows[at:]
                looked = self.looked_at(shape, less, changed)
                right += looked
                wrong += not looked
        self.assertGreater(right, 50)
        self.assertGreater(wrong, 300)

    def test_rows_turned_about(self):
        for shape, order in samples.GROWN:
            taken, rows = shrinking(shape, plain_paper(shape, order))
            self.looked_at(shape, taken, rows[::-1])
            self.looked_at(shape, [], rows)


if __name__ == "__main__":
    unittest.main()
