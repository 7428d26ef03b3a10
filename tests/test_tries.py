"""Points 2, 11 and 12: the first order as wished, how many there are, the first of them."""

import itertools
import math
import unittest

import samples
from samples import NO_WISHES
from wholesides.errors import NoWish, TooMany
from wholesides.tries import first_order, how_many, some_orders
from wholesides.wishes import NO_WISH

# Of these all orders can be gone through, one by one.
FEW = [shape for shape in samples.SMALL + samples.RANDOM if len(shape) <= 6]
THIRTEENS = [
    tuple((k,) for k in range(13)), tuple((k, k + 1) for k in range(13)),
    samples.TWELVE_APART + ((30, 31, 32),), samples.first_combinations(range(8), 6, 13)]


class Checks(unittest.TestCase):
    def check(self, shape, wish, orders):
        """That all three tell these orders, all there are, rising."""
        self.assertEqual(how_many(shape, wish), len(orders), (shape, wish))
        self.assertIs(type(how_many(shape, wish)), int)
        self.assertEqual(first_order(shape, wish), orders[0] if orders else None)
        for most in (0, 1, 2, 30):
            self.assertEqual(some_orders(shape, wish, most), orders[:most])


class ByHandTest(Checks):
    def test_one_piece(self):
        for shape in (samples.DOT, samples.STICK, ((0, 1, 2, 3, 4, 5),)):
            for wish in (((), ()), ((0,), ()), ((), (0,))):
                self.check(shape, wish, [[0]])

    def test_no_order(self):
        for shape in (samples.STICKS_APART, samples.BOW, samples.TRIANGLES_APART):
            self.check(shape, NO_WISH, [])
            self.check(shape, ((1,), ()), [])
            self.check(shape, ((), (0,)), [])

    def test_orders_and_none_as_wished(self):
        self.check(samples.FAN, NO_WISH, [[0, 2, 1], [1, 2, 0], [2, 0, 1], [2, 1, 0]])
        self.check(samples.FAN, ((), (2,)), [])
        self.check(samples.FAN, ((0, 1), ()), [])
        self.check(samples.FAN, ((2,), ()), [[2, 0, 1], [2, 1, 0]])
        self.check(samples.FAN, ((), (0,)), [[1, 2, 0], [2, 1, 0]])
        self.check(samples.FAN, ((1,), (0,)), [[1, 2, 0]])
        self.check(samples.FAN, ((1,), (2, 0)), [[1, 2, 0]])
        self.check(samples.FAN, ((), (1, 2, 0)), [[1, 2, 0]])
        self.check(samples.FAN, ((1, 2, 0), ()), [[1, 2, 0]])
        self.check(samples.FAN, ((0,), (2,)), [])
        self.check(samples.ROW, ((), (1,)), [])
        self.check(samples.ROW, ((1,), (3,)), [[1, 0, 2, 3], [1, 2, 0, 3]])


class AllOrdersTest(Checks):
    def test_no_wish(self):
        for shape in FEW:
            self.check(shape, NO_WISH, samples.all_orders(shape))

    def test_every_wish(self):
        for shape in FEW:
            if len(shape) <= 4:
                orders = samples.all_orders(shape)
                for wish in samples.all_wishes(shape):
                    self.check(shape, wish, [o for o in orders if samples.plain_wished(wish, o)])

    def test_some_wishes(self):
        for seed, shape in enumerate(FEW):
            if len(shape) > 4:
                orders = samples.all_orders(shape)
                for wish in samples.some_wishes(shape, 25, seed):
                    self.check(shape, wish, [o for o in orders if samples.plain_wished(wish, o)])


class BigTest(unittest.TestCase):
    def check(self, shape, wish):
        first = samples.first_by_masks(shape, wish)
        many = samples.ways_by_masks(shape, wish)(0)
        self.assertEqual(how_many(shape, wish), many, (shape, wish))
        self.assertEqual(first_order(shape, wish), first, (shape, wish))
        found = some_orders(shape, wish, 30)
        self.assertEqual(len(found), min(many, 30))
        self.assertEqual(found[:1], [first] if many else [])
        self.assertTrue(all(low < high for low, high in zip(found, found[1:])))
        for order in found:
            self.assertEqual(sorted(order), list(range(len(shape))))
            self.assertIsNone(samples.plain_fault_of(shape, order))
            self.assertTrue(samples.plain_wished(wish, order))

    def test_the_masks_tell_what_fits(self):
        for shape in samples.SMALL + samples.RANDOM:
            masks = samples.fit_masks(shape)
            for many in range(len(shape)):
                for laid in itertools.combinations(range(len(shape)), many):
                    mask = sum(1 << j for j in laid)
                    for k in set(range(len(shape))) - set(laid):
                        self.assertEqual(
                            bool(samples.mask_fits(masks, mask, k)), samples.plain_fits(shape, list(laid), k))

    def test_twelve(self):
        for shape in samples.TWELVES:
            self.check(shape, NO_WISH)

    def test_twelve_with_wishes(self):
        for seed, shape in enumerate(samples.TWELVES):
            for wish in samples.some_wishes(shape, 6, seed):
                self.check(shape, wish)

    def test_others(self):
        for seed, shape in enumerate([samples.EIGHT, samples.SEVEN_RIM] + samples.RANDOM):
            for wish in [NO_WISH, *samples.some_wishes(shape, 4, seed)]:
                self.check(shape, wish)

    def test_the_first_thirty_of_far_too_many(self):
        for shape in (samples.TWELVE_DOTS, samples.TWELVE_STAR):
            first = [list(order) for order in itertools.islice(itertools.permutations(range(12)), 30)]
            self.assertEqual(some_orders(shape, NO_WISH, 30), first)
            wish = ((11, 3), (0, 1))
            rest = [2, 4, 5, 6, 7, 8, 9, 10]
            first = [[11, 3, *some, 0, 1] for some in itertools.islice(itertools.permutations(rest), 30)]
            self.assertEqual(some_orders(shape, wish, 30), first)

    def test_a_dead_end_behind_far_too_many(self):
        # All but the last two pieces may be laid in any order; only then nothing goes on.
        self.assertIsNone(first_order(samples.TWELVE_FANS, NO_WISH))
        self.assertEqual(how_many(samples.TWELVE_FANS, NO_WISH), 0)
        self.assertEqual(some_orders(samples.TWELVE_FANS, NO_WISH, 30), [])

    def test_beginnings_from_which_no_order_goes_on(self):
        self.check(samples.CAPPED, NO_WISH)
        # Numbered so that such a beginning would come first.
        numbers = [9, 8, 7, 4] + [k for k in range(11) if k not in (9, 8, 7, 4)]
        shape = tuple(samples.CAPPED[k] for k in numbers)
        for wish in (NO_WISH, ((0, 1, 2, 3), ()), ((0, 1, 2), ()), ((1, 3), (0,))):
            self.check(shape, wish)
        self.assertEqual(how_many(shape, ((0, 1, 2, 3), ())), 0)
        self.assertGreater(how_many(shape, ((0, 1, 2), ())), 0)


class NumbersTest(unittest.TestCase):
    """The numbers that point 12 tells."""

    def test_pieces_of_one_corner(self):
        for many in range(1, 13):
            self.assertEqual(how_many(tuple((3 * k,) for k in range(many)), NO_WISH), math.factorial(many))

    def test_sides_of_one_face(self):
        for many in range(2, 8):
            shape = tuple(itertools.combinations(range(many), many - 1))
            self.assertEqual(how_many(shape, NO_WISH), math.factorial(many))

    def test_some_sides_of_one_face(self):
        for many in range(2, 8):
            shape = tuple(itertools.combinations(range(many), many - 1))
            for some in range(1, many + 1):
                self.assertEqual(how_many(shape[:some], NO_WISH), math.factorial(some))

    def test_rows_of_sticks(self):
        for many in range(1, 13):
            self.assertEqual(how_many(tuple((k, k + 1) for k in range(many)), NO_WISH), 2 ** (many - 1))

    def test_rings_of_sticks(self):
        for many in range(3, 13):
            shape = tuple(tuple(sorted((k, (k + 1) % many))) for k in range(many))
            self.assertEqual(how_many(shape, NO_WISH), many * 2 ** (many - 2))


class RefusalTest(unittest.TestCase):
    def asks(self, shape, wish):
        return [lambda: first_order(shape, wish), lambda: how_many(shape, wish)] + [
            lambda most=most: some_orders(shape, wish, most) for most in (0, 1, 30)]

    def refused(self, error, shape, wish):
        for ask in self.asks(shape, wish):
            with self.assertRaises(error) as caught:
                ask()
            self.assertIs(type(caught.exception), error)

    def test_no_wish(self):
        for shape in (samples.DOT, samples.FAN, samples.TWELVE_ROW):
            for wish in NO_WISHES:
                self.refused(NoWish, shape, wish)
        self.refused(NoWish, samples.FAN, ((3,), ()))
        self.refused(NoWish, samples.FAN, ((0,), (0,)))

    def test_too_many(self):
        for shape in THIRTEENS + samples.FORTIES:
            for wish in (NO_WISH, ((0,), ()), ((1, 0), (12,)), ((), tuple(range(13)))):
                self.refused(TooMany, shape, wish)

    def test_both_at_once(self):
        for shape in THIRTEENS + samples.FORTIES:
            for wish in [((0,), (0,)), ((len(shape),), ()), ((-1,), ()), [(), ()], None, (True, ()), ((), (True,))]:
                self.refused(NoWish, shape, wish)

    def test_twelve_are_not_too_many(self):
        for ask in self.asks(samples.TWELVE_RING, NO_WISH):
            self.assertIsNotNone(ask())


class OwnTest(unittest.TestCase):
    def test_the_lists_are_the_askers_own(self):
        wish = ((2,), ())
        kept = [[2, 0, 1], [2, 1, 0]]
        first = first_order(samples.FAN, wish)
        first[0] = "other"
        first.append("more")
        found = some_orders(samples.FAN, wish, 30)
        self.assertEqual(found, kept)
        found[0].append("more")
        self.assertEqual(found[1], kept[1])
        found.clear()
        self.assertEqual(some_orders(samples.FAN, wish, 30), kept)
        self.assertEqual(first_order(samples.FAN, wish), kept[0])
        self.assertEqual(how_many(samples.FAN, wish), 2)

    def test_two_answers_are_two_lists(self):
        first, second = some_orders(samples.FAN, NO_WISH, 2), some_orders(samples.FAN, NO_WISH, 2)
        first[0].append("more")
        self.assertEqual(second, [[0, 2, 1], [1, 2, 0]])
        lone = some_orders(samples.DOT, NO_WISH, 1)
        lone[0].append("more")
        self.assertEqual(some_orders(samples.DOT, NO_WISH, 1), [[0]])


if __name__ == "__main__":
    unittest.main()
