"""Points 2, 3, 9 and 10: papers, the checker, and who brings a face."""

import copy
import itertools
import random
import unittest

import samples
from samples import FIGURES_30, FIGURES_31, FIGURES_60, NOTHINGS
from wholesides.counts import brought_counts
from wholesides.errors import NoFace, NoOrder
from wholesides.papers import bringer, fault, lets_by, order_in, paper_of
from wholesides.shapes import faces

FEW = [shape for shape in samples.SMALL + samples.RANDOM if len(shape) <= 5]
ORDERED = [(shape, samples.an_order(shape)) for shape in samples.SHAPES]
ORDERED = [(shape, order) for shape, order in ORDERED if order is not None]
SOLID_PAPER = [(0, ()), (1, (3,)), (2, (2, 3)), (3, (1, 2, 3))]


def plain_paper(shape, order):
    return [(k, samples.plain_brings(shape, order[:at], k)) for at, k in enumerate(order)]


def plain_right(shape, rows, at):
    """Point 9, clause by clause."""
    k, face = rows[at]
    ahead = [j for j, _ in rows[:at]]
    if k not in range(len(shape)) or k in ahead:
        return False
    laid = [shape[j] for j in ahead]
    within = set(face) <= set(shape[k])
    sides = all(samples.plain_has(laid, set(shape[k]) - {c}) for c in face)
    return within and sides and not samples.plain_has(laid, face)


def plain_fault(shape, rows):
    for at in range(len(rows)):
        if not plain_right(shape, rows, at):
            return at
    return None if len(rows) == len(shape) else len(rows)


def changed_rows(shape, paper, dice):
    """Lists of rows, each with one thing done to a paper."""
    many = len(paper)
    others = faces(shape)
    for at in range(many):
        k, face = paper[at]
        told = [paper[:at] + paper[at + 1:], paper[:at]]
        told += [paper[:at] + [(other, face)] + paper[at + 1:] for other in (-1, many, k - many, many - 1, 0)]
        told += [paper[:at] + [(k, other)] + paper[at + 1:] for other in dice.sample(others, min(6, len(others)))]
        told += [paper[:at] + [(k, face[:-1])] + paper[at + 1:], paper[:at] + [(k, face[1:])] + paper[at + 1:]]
        told += [paper[:at] + [(k, shape[k])] + paper[at + 1:], paper[:at] + [(k, (99,))] + paper[at + 1:]]
        told += [paper[:at] + [paper[at]] + paper[at:], paper + [paper[at]], paper + [(many, ())]]
        told += [paper[:at] + paper[at:][::-1], paper[at:] + paper[:at]]
        yield from told


class PaperOfTest(unittest.TestCase):
    def test_by_hand(self):
        self.assertEqual(paper_of(samples.DOT, [0]), [(0, ())])
        self.assertEqual(paper_of(samples.DOTS, [2, 0, 3, 1]), [(2, ()), (0, (3,)), (3, (8,)), (1, (-1,))])
        self.assertEqual(paper_of(samples.ROW, [1, 0, 2, 3]), [(1, ()), (0, (0,)), (2, (3,)), (3, (4,))])
        self.assertEqual(paper_of(samples.RING, [0, 1, 3, 2]), [(0, ()), (1, (2,)), (3, (3,)), (2, (2, 3))])
        self.assertEqual(paper_of(samples.SOLID_RIM, [0, 1, 2, 3]), SOLID_PAPER)
        self.assertEqual(paper_of(samples.FAN, [1, 2, 0]), [(1, ()), (2, (1,)), (0, (0,))])

    def test_papers_of_all_lists(self):
        for shape in FEW:
            for some in itertools.permutations(range(len(shape))):
                order = list(some)
                place = samples.plain_fault_of(shape, order)
                if place is None:
                    self.assertEqual(paper_of(shape, order), plain_paper(shape, order))
                else:
                    with self.assertRaises(NoOrder) as caught:
                        paper_of(shape, order)
                    self.assertEqual(caught.exception.at, place)
                self.assertEqual(order, list(some))

    def test_papers_of_big_shapes(self):
        self.assertGreater(len(ORDERED), 30)
        for shape, order in ORDERED:
            self.assertEqual(paper_of(shape, order), plain_paper(shape, order))

    def test_no_order(self):
        told = [(samples.ROW, [0, 2, 1, 3], 1), (samples.ROW, [0, 1, 3, 2], 2), (samples.BOW, [0, 1], 1),
                (samples.FORTY_SIX_APART, list(range(40)), 1),
                (samples.FORTY_ROW, list(range(38)) + [39, 38], 38)]
        for shape, order, place in told:
            with self.assertRaises(NoOrder) as caught:
                paper_of(shape, order)
            self.assertEqual(caught.exception.at, place)

    def test_order_in(self):
        self.assertEqual(order_in([]), [])
        self.assertEqual(order_in(SOLID_PAPER), [0, 1, 2, 3])
        for shape, order in ORDERED:
            self.assertEqual(order_in(paper_of(shape, order)), order)


class FaultTest(unittest.TestCase):
    def check(self, shape, rows, place):
        self.assertEqual(fault(shape, rows), place)
        self.assertIs(lets_by(shape, rows), place is None)

    def test_papers_are_let_by(self):
        for shape, order in ORDERED:
            self.check(shape, paper_of(shape, order), None)

    def test_another_number(self):
        for k in (-1, 4, -4, -2, 0, FIGURES_60, -FIGURES_60):
            self.check(samples.SOLID_RIM, SOLID_PAPER[:2] + [(k, (2, 3))] + SOLID_PAPER[3:], 2)
        self.check(samples.SOLID_RIM, SOLID_PAPER[:2] + [(3, (2, 3))] + [(2, (0, 2, 3))], None)
        self.check(samples.DOT, [(1, ())], 0)
        self.check(samples.DOT, [(-1, ())], 0)

    def test_a_number_twice(self):
        self.check(samples.SOLID_RIM, SOLID_PAPER[:1] + SOLID_PAPER, 1)
        self.check(samples.SOLID_RIM, SOLID_PAPER + [(0, ())], 4)
        self.check(samples.SOLID_RIM, SOLID_PAPER[:3] + [(1, (1, 2, 3))], 3)
        self.check(((0, 1), (1, 2)), [(0, ()), (0, (0, 1))], 1)

    def test_a_row_left_out(self):
        self.check(samples.SOLID_RIM, SOLID_PAPER[:3], 3)
        self.check(samples.SOLID_RIM, SOLID_PAPER[:1], 1)
        self.check(samples.SOLID_RIM, [], 0)
        self.check(samples.DOT, [], 0)
        self.check(samples.SOLID_RIM, SOLID_PAPER[1:], 0)
        self.check(samples.SOLID_RIM, SOLID_PAPER[:1] + SOLID_PAPER[2:], 1)
        self.check(samples.FORTY_ROW, paper_of(samples.FORTY_ROW, list(range(40)))[:39], 39)

    def test_a_row_more(self):
        for row in [(4, ()), (0, ()), (3, (1, 2, 3)), (-1, ()), (4, (9,))]:
            self.check(samples.SOLID_RIM, SOLID_PAPER + [row], 4)

    def test_rows_exchanged(self):
        first, second, third, fourth = SOLID_PAPER
        self.check(samples.SOLID_RIM, [second, first, third, fourth], 0)
        self.check(samples.SOLID_RIM, [first, third, second, fourth], 1)
        self.check(samples.SOLID_RIM, [first, second, fourth, third], 2)
        rows = paper_of(samples.DOTS, [0, 1, 2, 3])
        self.check(samples.DOTS, [rows[0], rows[2], rows[1], rows[3]], None)

    def test_another_face(self):
        for face in [(), (2,), (3,), (0,), (0, 2), (0, 3), (0, 2, 3), (1,), (9,), (2, 9), (1, 2, 3), (0, 1)]:
            self.check(samples.SOLID_RIM, SOLID_PAPER[:2] + [(2, face)] + SOLID_PAPER[3:], 2)
        for face in [(0,), (0, 1, 2), (3,), (0, 1, 2, 3)]:
            self.check(samples.SOLID_RIM, [(0, face)] + SOLID_PAPER[1:], 0)

    def test_a_face_that_lies_not_in_the_piece(self):
        # All else is right: the sides lie ahead, and no piece ahead holds the face.
        self.check(samples.TWO, [(0, ()), (1, (3,))], None)
        self.check(samples.TWO, [(0, ()), (1, (3, 9))], 1)
        self.check(samples.DOTS[:2], [(0, ()), (1, (9,))], 1)

    def test_a_side_that_lies_not_ahead(self):
        self.check(samples.STICKS_APART, [(0, ()), (1, (2,))], 1)
        self.check(samples.STICKS_APART, [(0, ()), (1, (2, 3))], 1)
        self.check(samples.BOW, [(0, ()), (1, (3, 4))], 1)
        self.check(samples.TWO, [(0, ()), (1, (1, 3))], 1)

    def test_a_face_that_lies_ahead(self):
        self.check(samples.TWO, [(0, ()), (1, ())], 1)
        self.check(samples.SOLID_RIM, SOLID_PAPER[:2] + [(2, (3,)), (3, (1, 2, 3))], 2)

    def test_one_thing_done_to_a_paper(self):
        dice = random.Random(9)
        for shape, order in ORDERED:
            if len(shape) <= 8:
                for rows in changed_rows(shape, paper_of(shape, order), dice):
                    kept = copy.deepcopy(rows)
                    self.check(shape, rows, plain_fault(shape, rows))
                    self.assertEqual(rows, kept)

    def test_one_thing_done_to_a_paper_of_forty(self):
        paper = paper_of(samples.FORTY_SIXES, samples.an_order(samples.FORTY_SIXES))
        k, face = paper[39]
        self.check(samples.FORTY_SIXES, paper[:39] + [(k, face[1:])], 39)
        self.check(samples.FORTY_SIXES, paper + [(k, face)], 40)
        self.check(samples.FORTY_SIXES, paper[:20] + [paper[19]] + paper[20:], 20)

    def test_whatever_is_let_by_is_the_paper_of_an_order(self):
        shapes = [samples.TRIANGLE_RIM, samples.STICKS_APART, samples.TWO, samples.BOW, samples.DOTS[:3],
                  samples.ROW[:3], samples.DOT, ((0, 1), (1, 2), (1, 3))]
        for shape in shapes:
            papers = [plain_paper(shape, order) for order in samples.all_orders(shape)]
            names = faces(shape) + [(99,)]
            choice = list(itertools.product(range(-1, len(shape) + 1), names))
            for some in itertools.product(choice, repeat=len(shape)):
                rows = list(some)
                self.assertEqual(lets_by(shape, rows), rows in papers)


class LetsByTest(unittest.TestCase):
    def test_wrong_kinds(self):
        first, second, third, fourth = SOLID_PAPER
        self.assertIs(lets_by(samples.SOLID_RIM, [first, second, third, fourth]), True)
        wrong_rows = [
            [1, (3,)], (1, [3]), (1,), (1, (3,), ()), (1, (3,), 3), (), (True, (3,)), (1, (True,)), (1, None),
            (None, (3,)), None, True, 1, "1 3", ("1", (3,)), (1, "3"), (1, ("3",)), (1, 3), (1, ((3,),)),
            (1, (3, 3)), (1, (3, 1)), (1, (0, 1, 2, 3, 4, 5, 6)), (1, (3, FIGURES_31)), (1, (FIGURES_30,)),
            (1, (-FIGURES_31, 3)), (1, {3: 3}), {1: (3,)}, {0: 1, 1: (3,)}, (1, (3, None)), ((1,), (3,)), ([1], (3,)),
        ]
        for row in wrong_rows:
            with self.subTest(row=row):
                rows = [first, row, third, fourth]
                kept = copy.deepcopy(rows)
                self.assertIs(lets_by(samples.SOLID_RIM, rows), False)
                self.assertEqual(rows, kept)

    def test_truths_are_no_numbers(self):
        self.assertIs(lets_by(samples.DOT, [(0, ())]), True)
        self.assertIs(lets_by(samples.DOT, [(False, ())]), False)
        shape = ((0,), (1,))
        self.assertIs(lets_by(shape, [(0, ()), (1, (1,))]), True)
        self.assertIs(lets_by(shape, [(0, ()), (True, (1,))]), False)
        self.assertIs(lets_by(shape, [(0, ()), (1, (True,))]), False)

    def test_tuples_for_lists(self):
        for shape, order in ORDERED[:20]:
            paper = paper_of(shape, order)
            self.assertIs(lets_by(shape, tuple(paper)), False)
            self.assertIs(lets_by(shape, [list(row) for row in paper]), False)
            self.assertIs(lets_by(shape, [(k, list(face)) for k, face in paper]), False)
            self.assertIs(lets_by(shape, {k: face for k, face in paper}), False)
            self.assertIs(lets_by(shape, [row + ((),) for row in paper]), False)
            self.assertIs(lets_by(shape, [row[:1] for row in paper]), False)
            self.assertIs(lets_by(shape, order), False)

    def test_faces_that_fall(self):
        self.assertIs(lets_by(samples.SOLID_RIM, SOLID_PAPER[:2] + [(2, (3, 2))] + SOLID_PAPER[3:]), False)
        self.assertIs(lets_by(samples.SOLID_RIM, SOLID_PAPER[:2] + [(2, (2, 2, 3))] + SOLID_PAPER[3:]), False)

    def test_anything_else_is_none(self):
        for shape in samples.SMALL + samples.FORTIES:
            for thing in NOTHINGS + [(), [], 0, shape, list(shape)]:
                self.assertIs(lets_by(shape, thing), False)
                self.assertIs(lets_by(shape, [thing]), False)
                self.assertIs(lets_by(shape, [(0, thing)] if thing != () else [(0, [])]), False)
                self.assertIs(lets_by(shape, [(thing, ())] if thing != 0 or thing is False else []), False)


class BringerTest(unittest.TestCase):
    def test_by_hand(self):
        told = {(): 0, (0,): 0, (0, 1): 0, (0, 1, 2): 0, (3,): 1, (0, 3): 1, (1, 3): 1, (0, 1, 3): 1,
                (2, 3): 2, (0, 2, 3): 2, (1, 2, 3): 3}
        for face, k in told.items():
            self.assertEqual(bringer(samples.SOLID_RIM, SOLID_PAPER, face), k)

    def test_every_face_has_just_one(self):
        for shape, order in ORDERED:
            paper = paper_of(shape, order)
            for face in faces(shape):
                found = [k for k, brought in paper if set(brought) <= set(face) <= set(shape[k])]
                self.assertEqual([bringer(shape, paper, face)], found)

    def test_it_is_the_first_in_the_order_that_holds_it(self):
        for shape, order in ORDERED:
            paper = paper_of(shape, order)
            for face in faces(shape):
                first = [k for k in order if set(face) <= set(shape[k])][0]
                self.assertEqual(bringer(shape, paper, face), first)

    def test_no_face(self):
        for face in [(9,), (0, 9), (0, 1, 2, 3), (-1,), tuple(range(6)), (FIGURES_30,), tuple(range(7))]:
            with self.assertRaises(NoFace):
                bringer(samples.SOLID_RIM, SOLID_PAPER, face)
        with self.assertRaises(NoFace):
            bringer(samples.TWO, [(0, ()), (1, (3,))], (0, 3))
        with self.assertRaises(NoFace):
            bringer(samples.DOT, [(0, ())], (0,))


class CountsTest(unittest.TestCase):
    def check(self, shape, paper):
        sizes = [len(face) for _, face in paper]
        self.assertEqual([sizes.count(k) for k in range(len(shape[0]) + 1)], brought_counts(shape))

    def test_every_order_of_small_shapes(self):
        for shape in FEW:
            for order in samples.all_orders(shape):
                self.check(shape, paper_of(shape, order))

    def test_orders_of_big_shapes(self):
        for shape, order in ORDERED:
            self.check(shape, paper_of(shape, order))


class OwnTest(unittest.TestCase):
    def test_the_lists_are_the_askers_own(self):
        for ask in (lambda: paper_of(samples.SOLID_RIM, [0, 1, 2, 3]), lambda: order_in(SOLID_PAPER)):
            first = ask()
            kept = list(first)
            first.append("more")
            first[0] = "other"
            self.assertEqual(ask(), kept)

    def test_what_is_handed_in_stays(self):
        order = [0, 1, 2, 3]
        paper = paper_of(samples.SOLID_RIM, order)
        self.assertEqual(order, [0, 1, 2, 3])
        kept = list(paper)
        order.clear()
        self.assertEqual(paper, kept)
        told = order_in(paper)
        fault(samples.SOLID_RIM, paper)
        lets_by(samples.SOLID_RIM, paper)
        bringer(samples.SOLID_RIM, paper, (0,))
        self.assertEqual(paper, kept)
        paper.clear()
        self.assertEqual(told, [0, 1, 2, 3])


if __name__ == "__main__":
    unittest.main()
