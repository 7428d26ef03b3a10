"""Points 2, 11 and 15: wishes, orders as wished, and which pieces a wish allows next."""

import random
import unittest

import samples
from samples import FIGURES_60, NO_WISHES, SHAPES
from wholesides.errors import NoWish
from wholesides.wishes import NO_WISH, allowed, check_wish, is_wish, is_wished, wished_nexts


class IsWishTest(unittest.TestCase):
    def test_no_wish(self):
        self.assertEqual(NO_WISH, ((), ()))
        self.assertIs(type(NO_WISH), tuple)
        for shape in SHAPES:
            self.assertIs(is_wish(shape, NO_WISH), True)

    def test_all_wishes_of_small_shapes(self):
        for shape in samples.SMALL:
            if len(shape) <= 4:
                for wish in samples.all_wishes(shape):
                    self.assertIs(is_wish(shape, wish), True)

    def test_wishes_of_big_shapes(self):
        for shape in SHAPES:
            for wish in samples.some_wishes(shape, 5):
                self.assertIs(is_wish(shape, wish), True)
            numbers = tuple(range(len(shape)))
            self.assertIs(is_wish(shape, (numbers, ())), True)
            self.assertIs(is_wish(shape, ((), numbers[::-1])), True)
            self.assertIs(is_wish(shape, (numbers[:1], numbers[1:])), True)

    def test_anything_else(self):
        for shape in [samples.DOT, samples.DOTS, samples.TWO, samples.SEVEN_RIM] + samples.TWELVES:
            for thing in NO_WISHES:
                self.assertIs(is_wish(shape, thing), False, thing)

    def test_out_of_range(self):
        for shape in SHAPES:
            many = len(shape)
            for k in (-1, -many, many, many + 1, FIGURES_60, -FIGURES_60):
                for wish in (((k,), ()), ((), (k,)), ((0, k), ()), ((0,), (k,)), ((), (k, 0))):
                    self.assertIs(is_wish(shape, wish), False, wish)

    def test_one_thing_amiss(self):
        shape = samples.RING
        self.assertIs(is_wish(shape, ((0, 2), (3, 1))), True)
        for thing in (
                [(0, 2), (3, 1)], ([0, 2], (3, 1)), ((0, 2), [3, 1]), ((0, 2),), ((0, 2), (3, 1), ()),
                ((0, 2), (3, 2)), ((0, 0), (3, 1)), ((0, 2), (3, 3)), ((0, 2), (3, 0)), ((0, 2), (3, 4)),
                ((0, 2), (3, -1)), ((-4, 2), (3, 1)), ((False, 2), (3, 1)), ((0, 2), (3, True)),
                ((0, None), (3, 1)), ((0, "2"), (3, 1)), ((0, (2,)), (3, 1)), ((0, [2]), (3, 1)),
                ((0, {}), (3, 1)), ("02", "31"), ((0, 2), "31"), ((0, 2), None), ((0, 2), 3), {0: 2, 3: 1}):
            self.assertIs(is_wish(shape, thing), False, thing)
            self.assertRaises(NoWish, check_wish, shape, thing)


class IsWishedTest(unittest.TestCase):
    def test_by_hand(self):
        order = [2, 0, 3, 1]
        for wish in (((), ()), ((2,), ()), ((2, 0), ()), ((2, 0, 3, 1), ()), ((), (1,)), ((), (3, 1)),
                     ((), (2, 0, 3, 1)), ((2,), (1,)), ((2, 0), (3, 1)), ((2, 0, 3), (1,)), ((2,), (0, 3, 1))):
            self.assertIs(is_wished(wish, order), True, wish)
        for wish in (((0,), ()), ((1,), ()), ((0, 2), ()), ((2, 3), ()), ((), (3,)), ((), (1, 3)), ((), (0, 1)),
                     ((2,), (3,)), ((0,), (1,)), ((2, 0), (1, 3)), ((0, 2), (3, 1)), ((), (2, 0, 1, 3))):
            self.assertIs(is_wished(wish, order), False, wish)

    def test_a_lone_piece(self):
        self.assertIs(is_wished(((0,), ()), [0]), True)
        self.assertIs(is_wished(((), (0,)), [0]), True)
        self.assertIs(is_wished(NO_WISH, [0]), True)

    def test_all_wishes_and_orders(self):
        for shape in samples.SMALL:
            if len(shape) <= 4:
                for wish in samples.all_wishes(shape):
                    for order in samples.all_orders(shape):
                        self.assertIs(is_wished(wish, order), samples.plain_wished(wish, order))

    def test_forty(self):
        order = list(range(40))
        self.assertIs(is_wished((tuple(range(20)), tuple(range(20, 40))), order), True)
        self.assertIs(is_wished((tuple(range(20)), tuple(range(20, 39))), order), False)


def beginnings(shape, wish, seed):
    """The beginnings of some list of all numbers that is as wished, fitting or not."""
    beginning, end = wish
    rest = [k for k in range(len(shape)) if k not in beginning + end]
    random.Random(seed).shuffle(rest)
    whole = [*beginning, *rest, *end]
    return [whole[:many] for many in range(len(shape) + 1)]


class AllowedTest(unittest.TestCase):
    def test_by_hand(self):
        shape = samples.TRIANGLE_RIM + ((2, 3), (3, 4))
        wish = ((3, 1), (0,))
        self.assertEqual(allowed(shape, wish, []), [3])
        self.assertEqual(allowed(shape, wish, [3]), [1])
        self.assertEqual(allowed(shape, wish, [3, 1]), [2, 4])
        self.assertEqual(allowed(shape, wish, [3, 1, 4]), [2])
        self.assertEqual(allowed(shape, wish, [3, 1, 4, 2]), [0])
        self.assertEqual(allowed(shape, wish, [3, 1, 4, 2, 0]), [])
        wish = ((), (4, 1, 3))
        self.assertEqual(allowed(shape, wish, []), [0, 2])
        self.assertEqual(allowed(shape, wish, [2]), [0])
        self.assertEqual(allowed(shape, wish, [0, 2]), [4])
        self.assertEqual(allowed(shape, wish, [0, 2, 4]), [1])
        self.assertEqual(allowed(shape, wish, [0, 2, 4, 1]), [3])
        self.assertEqual(allowed(shape, wish, [0, 2, 4, 1, 3]), [])

    def test_without_a_wish(self):
        for shape in SHAPES:
            numbers = list(range(len(shape)))
            self.assertEqual(allowed(shape, NO_WISH, []), numbers)
            self.assertEqual(allowed(shape, NO_WISH, numbers[:-1][::-1]), numbers[-1:])
            self.assertEqual(allowed(shape, NO_WISH, numbers[1:]), [0])
            self.assertEqual(allowed(shape, NO_WISH, numbers), [])

    def test_all_is_wished(self):
        for shape in SHAPES:
            numbers = list(range(len(shape)))[::-1]
            for cut in (0, 1, len(shape) // 2, len(shape)):
                wish = (tuple(numbers[:cut]), tuple(numbers[cut:]))
                for many in range(len(shape)):
                    self.assertEqual(allowed(shape, wish, numbers[:many]), [numbers[many]])
                self.assertEqual(allowed(shape, wish, numbers), [])

    def test_pieces_that_do_not_fit_are_allowed(self):
        self.assertEqual(allowed(samples.TRIANGLES_APART, NO_WISH, [0]), [1])
        self.assertEqual(allowed(samples.ROW, ((0, 3), ()), [0]), [3])
        self.assertEqual(allowed(samples.ROW, ((), (2,)), [0]), [1, 3])

    def test_behind_each_beginning(self):
        for seed, shape in enumerate(SHAPES):
            for wish in samples.some_wishes(shape, 8, seed):
                for laid in beginnings(shape, wish, seed):
                    told = []
                    if len(laid) < len(shape):
                        told = [k for k in samples.at_place(shape, wish, len(laid)) if k not in laid]
                    self.assertEqual(allowed(shape, wish, laid), told, (shape, wish, laid))

    def test_sets_that_are_not_as_wished(self):
        wish = ((3, 1), (0,))
        shape = samples.RING
        self.assertEqual(allowed(shape, wish, [1]), [1])
        self.assertEqual(allowed(shape, wish, [3]), [1])
        self.assertEqual(allowed(shape, wish, [0, 2]), [1, 3])
        self.assertEqual(allowed(shape, wish, [0, 1, 2]), [0])
        self.assertEqual(allowed(shape, ((), (0, 1)), [0]), [2, 3])
        self.assertEqual(allowed(shape, ((), (0, 1)), [0, 1]), [0])
        self.assertEqual(allowed(shape, ((), (0, 1)), [0, 1, 2]), [1])


class WishedNextsTest(unittest.TestCase):
    def test_behind_each_beginning(self):
        for seed, shape in enumerate(SHAPES):
            for wish in samples.some_wishes(shape, 2, seed):
                for laid in beginnings(shape, wish, seed)[:8]:
                    told = [k for k in allowed(shape, wish, laid) if samples.plain_fits(shape, laid, k)]
                    self.assertEqual(wished_nexts(shape, wish, laid), told)

    def test_what_is_laid_already(self):
        self.assertEqual(wished_nexts(samples.RING, ((3, 1), (0,)), [1]), [])
        self.assertEqual(wished_nexts(samples.RING, ((), (0, 1)), [0, 1]), [])


class OwnTest(unittest.TestCase):
    def test_the_list_is_the_askers_own(self):
        for wish, laid in ((NO_WISH, [1]), (((1, 2), ()), [1]), (((), (0, 3)), [1, 2])):
            first = allowed(samples.RING, wish, laid)
            kept = list(first)
            first.append("more")
            first[0] = "other"
            self.assertEqual(allowed(samples.RING, wish, laid), kept)

    def test_what_is_handed_in_stays(self):
        laid, order, thing = [2, 1], [1, 2, 3, 0], ([1], [2])
        allowed(samples.RING, NO_WISH, laid)
        is_wished(((1,), (0,)), order)
        is_wish(samples.RING, thing)
        self.assertEqual((laid, order, thing), ([2, 1], [1, 2, 3, 0], ([1], [2])))

    def test_what_was_told_stays(self):
        laid = [2, 1]
        told = allowed(samples.RING, NO_WISH, laid)
        laid.append(3)
        allowed(samples.RING, NO_WISH, laid)
        self.assertEqual(told, [0, 3])


if __name__ == "__main__":
    unittest.main()
