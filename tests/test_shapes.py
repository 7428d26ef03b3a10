"""Points 2 and 5: shapes and their faces."""

import copy
import itertools
import unittest

import samples
from samples import FIGURES_30, FIGURES_31, FORTIES, FORTY_SIXES, NOTHINGS, SHAPES
from wholesides.errors import NoShape
from wholesides.shapes import corners, faces, has, holders, is_shape, shape_of

WRONG_SHAPES = [
    (), ((),), ((), ()), ((0,), ()), ((), (0,)), ((0, 1), (0, 1)), ((0, 1), (2, 3), (0, 1)),
    ((0, 1), (2,)), ((0,), (1, 2)), ((0, 1), (1, 2, 3)), ((1, 0),), ((0, 0),), ((0, 1), (2, 1)),
    (tuple(range(7)),), ((FIGURES_31,),), ((0, 1), (0, FIGURES_31)), ((0, 1), (-FIGURES_31, 0)),
    tuple((k,) for k in range(41)), ((True,),), ((False,), (1,)), ((0, True),), ((0,), (True,)),
    [(0, 1)], ([0, 1],), ((0, 1), [1, 2]), ((0, 1), None), ((0, 1), "ab"), ((0, 1), 2), (0, 1),
    0, 5, [], [[0, 1]], {(0, 1): True}, ({0: 1},), (("a", "b"),), ((0, "b"),), (((0,), (1,)),),
]
WRONG_PIECES = [
    (), ((0, 1),), ([0, 1],), [(0, 1)], [[0, 1], (1, 2)], [], [[]], [[], []], [[0], []],
    [[0, 0]], [[0, 1, 0]], [[0, 1], [2, 2]], [[0, 1], [1, 0]], [[0, 1], [2, 3], [0, 1]],
    [[0, 1], [2]], [[0], [1, 2]], [list(range(7))], [[k] for k in range(41)],
    [[FIGURES_31]], [[0, -FIGURES_31]], [[True]], [[0, True]], [[0], [False]], [[0, "1"]],
    [[0, None]], [[0, [1]]], [[0, (1,)]], [{0: 1}], [{}], ["ab"], [[0, 1], None], [[0, 1], 5],
    0, {0: [0, 1]}, "piece 0 1", [[[0, 1]]], [[(0, 1)]],
]


class IsShapeTest(unittest.TestCase):
    def test_shapes(self):
        for shape in SHAPES:
            with self.subTest(shape=shape[:4]):
                self.assertIs(is_shape(shape), True)

    def test_one_forty_and_forty_one_pieces(self):
        for many in range(45):
            shape = tuple((k, k + 1) for k in range(many))
            self.assertIs(is_shape(shape), 1 <= many <= 40)

    def test_sizes(self):
        for size in range(9):
            self.assertIs(is_shape((tuple(range(size)),)), 1 <= size <= 6)

    def test_wrong_ones(self):
        for thing in WRONG_SHAPES + NOTHINGS:
            with self.subTest(thing=repr(thing)[:60]):
                self.assertIs(is_shape(thing), False)

    def test_pieces_needn_t_rise(self):
        self.assertIs(is_shape(((4, 5), (0, 1), (2, 9))), True)


class ShapeOfTest(unittest.TestCase):
    def test_corners_in_any_order(self):
        for some in itertools.permutations([3, -1, 20]):
            self.assertEqual(shape_of([list(some)]), ((-1, 3, 20),))

    def test_pieces_in_the_list_s_order(self):
        self.assertEqual(shape_of([[9, 8], [1, 0], [5, 4]]), ((8, 9), (0, 1), (4, 5)))
        self.assertEqual(shape_of([[4], [-4], [0]]), ((4,), (-4,), (0,)))

    def test_every_shape_comes_back(self):
        for shape in SHAPES:
            told = shape_of([list(reversed(piece)) for piece in shape])
            self.assertEqual(told, shape)
            self.assertIs(is_shape(told), True)
            self.assertTrue(all(isinstance(piece, tuple) for piece in told))

    def test_edges(self):
        names = [FIGURES_30, -FIGURES_30, 0, 1, 2, 3]
        self.assertEqual(shape_of([names]), ((-FIGURES_30, 0, 1, 2, 3, FIGURES_30),))
        self.assertEqual(len(shape_of([[k] for k in range(40)])), 40)

    def test_no_shape(self):
        for thing in WRONG_PIECES + WRONG_SHAPES[:8] + NOTHINGS:
            with self.subTest(thing=repr(thing)[:60]), self.assertRaises(NoShape):
                shape_of(thing)

    def test_shapes_are_no_lists(self):
        for shape in SHAPES:
            with self.assertRaises(NoShape):
                shape_of(shape)
            with self.assertRaises(NoShape):
                shape_of(list(shape))

    def test_what_is_done_afterwards_changes_nothing(self):
        pieces = [[2, 1], [2, 3]]
        told = shape_of(pieces)
        self.assertEqual(pieces, [[2, 1], [2, 3]])
        pieces[0].append(7)
        pieces.append([4, 5])
        pieces[1][0] = 9
        self.assertEqual(told, ((1, 2), (2, 3)))

    def test_what_is_refused_stays(self):
        for thing in WRONG_PIECES:
            kept = copy.deepcopy(thing)
            with self.assertRaises(NoShape):
                shape_of(thing)
            self.assertEqual(thing, kept)


class FacesTest(unittest.TestCase):
    def test_by_hand(self):
        shape = ((10, 11), (2, 10))
        self.assertEqual(corners(shape), [2, 10, 11])
        self.assertEqual(faces(shape), [(), (2,), (10,), (11,), (2, 10), (10, 11)])
        self.assertEqual(holders(shape, (10,)), [0, 1])
        self.assertEqual(holders(shape, (2,)), [1])
        self.assertEqual(holders(shape, (2, 11)), [])
        self.assertEqual(holders(shape, ()), [0, 1])
        self.assertIs(has(shape, (2, 10)), True)
        self.assertIs(has(shape, (2, 11)), False)
        self.assertIs(has(shape, ()), True)

    def test_corners_rise_each_once(self):
        for shape in SHAPES:
            self.assertEqual(corners(shape), sorted(set(itertools.chain(*shape))))

    def test_faces_by_size_then_rising(self):
        for shape in SHAPES:
            found = {face for piece in shape for face in samples.subsets(piece)}
            self.assertEqual(faces(shape), sorted(sorted(found), key=len))

    def test_has_and_holders(self):
        for shape in samples.SMALL + samples.RANDOM[:20]:
            names = [-99] + corners(shape) + [99]
            sizes = range(min(len(shape[0]) + 2, 7))
            for face in itertools.chain(*(itertools.combinations(names, size) for size in sizes)):
                held = [k for k in range(len(shape)) if set(face) <= set(shape[k])]
                self.assertEqual(holders(shape, face), held)
                self.assertIs(has(shape, face), bool(held))

    def test_every_shape_has_the_empty_face(self):
        for shape in SHAPES:
            self.assertIs(has(shape, ()), True)
            self.assertEqual(holders(shape, ()), list(range(len(shape))))
            self.assertEqual(faces(shape)[0], ())

    def test_forty_pieces_of_six_corners(self):
        self.assertEqual(len(FORTY_SIXES), 40)
        for piece in FORTY_SIXES:
            self.assertIs(has(FORTY_SIXES, piece), True)
            self.assertEqual(holders(FORTY_SIXES, piece), [FORTY_SIXES.index(piece)])
        self.assertIs(has(FORTY_SIXES, (0, 2, 3, 4, 5, 6)), False)
        self.assertEqual(holders(FORTY_SIXES, (99,)), [])

    def test_forty_six_apart(self):
        shape = FORTIES[3]
        self.assertEqual(len(faces(shape)), 40 * 63 + 1)
        self.assertEqual(corners(shape), list(range(240)))

    def test_faces_that_are_too_long(self):
        self.assertIs(has(samples.SEVEN_RIM, tuple(range(7))), False)
        self.assertEqual(holders(samples.SEVEN_RIM, tuple(range(7))), [])

    def test_the_lists_are_the_askers_own(self):
        for shape in samples.SMALL:
            asks = [lambda: corners(shape), lambda: faces(shape), lambda: holders(shape, ())]
            for ask in asks:
                first = ask()
                kept = list(first)
                first.append("more")
                first[0] = "other"
                self.assertEqual(ask(), kept)


if __name__ == "__main__":
    unittest.main()
