"""Points 2 and 4: corners and faces."""

import itertools
import unittest

import samples
from samples import FIGURES_30, FIGURES_31, FIGURES_60, NOTHINGS
from wholesides.faces import faces_in, is_corner, is_face, sides_of

FACES = [
    (), (0,), (-1,), (5, 9), (-7, 0, 3), (1, 2, 3, 4), (-3, -2, -1, 0, 1), (0, 1, 2, 3, 4, 5),
    (-FIGURES_30,), (FIGURES_30,), (-FIGURES_30, FIGURES_30), (9, 10), (-10, -9),
]


class CornerTest(unittest.TestCase):
    def test_corners(self):
        for thing in (0, 1, -1, 17, 10 ** 29, -10 ** 29, FIGURES_30, -FIGURES_30):
            with self.subTest(thing=thing):
                self.assertIs(is_corner(thing), True)

    def test_thirty_one_figures_are_too_many(self):
        for thing in (FIGURES_31, -FIGURES_31, FIGURES_31 + 1, FIGURES_60, -FIGURES_60):
            with self.subTest(thing=thing):
                self.assertIs(is_corner(thing), False)

    def test_anything_else_is_none(self):
        for thing in NOTHINGS + FACES + [[0], [1, 2], (0, (0,))]:
            with self.subTest(thing=repr(thing)[:60]):
                self.assertIs(is_corner(thing), False)


class FaceTest(unittest.TestCase):
    def test_faces(self):
        for thing in FACES:
            with self.subTest(thing=thing):
                self.assertIs(is_face(thing), True)

    def test_none_to_seven_corners(self):
        for many in range(10):
            with self.subTest(many=many):
                self.assertIs(is_face(tuple(range(many))), many <= 6)

    def test_falling_and_twice(self):
        wrong = [(1, 0), (0, 0), (0, 1, 1), (1, 1, 2), (0, 2, 1), (3, 2, 1), (0, -1), (-1, -2),
                 (1, 2, 3, 4, 6, 5), (1, 2, 3, 4, 5, 5), (10, 9)]
        for thing in wrong:
            with self.subTest(thing=thing):
                self.assertIs(is_face(thing), False)

    def test_every_arrangement_of_three(self):
        for thing in itertools.product(range(-1, 2), repeat=3):
            self.assertIs(is_face(thing), thing == (-1, 0, 1))

    def test_anything_else_is_none(self):
        wrong = [0, [], [0], [0, 1], (False, 1), (0, True), (0, "1"), (0, None), (0, (1,)), {1: 2},
                 (0, FIGURES_31), (-FIGURES_31, 0), ("a", "b"), ((0,), (1,)), "ab"]
        for thing in NOTHINGS + wrong:
            with self.subTest(thing=repr(thing)[:60]):
                self.assertIs(is_face(thing), False)


class WithinTest(unittest.TestCase):
    def test_faces_in_by_hand(self):
        self.assertEqual(faces_in(()), [()])
        self.assertEqual(faces_in((4,)), [(), (4,)])
        self.assertEqual(faces_in((-1, 4)), [(), (-1,), (4,), (-1, 4)])
        self.assertEqual(
            faces_in((2, 10, 11)),
            [(), (2,), (10,), (11,), (2, 10), (2, 11), (10, 11), (2, 10, 11)])

    def test_faces_in_by_size_then_rising(self):
        for face in FACES:
            with self.subTest(face=face):
                self.assertEqual(faces_in(face), samples.subsets(face))

    def test_all_faces_in_are_faces(self):
        self.assertTrue(all(is_face(face) for face in faces_in((0, 1, 2, 3, 4, 5))))
        self.assertEqual(len(faces_in((0, 1, 2, 3, 4, 5))), 64)

    def test_sides_by_hand(self):
        self.assertEqual(sides_of(()), [])
        self.assertEqual(sides_of((4,)), [()])
        self.assertEqual(sides_of((-1, 4)), [(4,), (-1,)])
        self.assertEqual(sides_of((1, 2, 3)), [(2, 3), (1, 3), (1, 2)])

    def test_sides_by_the_corner_left_out(self):
        for face in FACES:
            with self.subTest(face=face):
                told = sides_of(face)
                self.assertEqual(len(told), len(face))
                for corner, side in zip(face, told):
                    self.assertEqual(side, tuple(c for c in face if c != corner))

    def test_seven_corners_raise_nothing(self):
        self.assertEqual(len(faces_in(tuple(range(7)))), 128)
        self.assertEqual(len(sides_of(tuple(range(7)))), 7)

    def test_the_lists_are_the_askers_own(self):
        for ask in (faces_in, sides_of):
            for face in FACES:
                first = ask(face)
                kept = list(first)
                first.append("more")
                first[0] = "other"
                self.assertEqual(ask(face), kept)


if __name__ == "__main__":
    unittest.main()
