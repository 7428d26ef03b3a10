"""Points 2, 11, 15 and 24: pieces laid one by one, as a wish allows."""

import random
import unittest

import samples
from checks import Checks
from samples import FIGURES_60, NO_WISHES, NOTHINGS
from wholesides.errors import NoFit, NoWish, TooMany
from wholesides.laying import Laying
from wholesides.wishes import NO_WISH

# What is no number of a piece, of whatever shape.
NO_NUMBERS = [*NOTHINGS, -1, -2, 40, FIGURES_60, -FIGURES_60, "0", (0,), [0], (), []]


def plain_can(shape, wish, laid):
    """The pieces that may be laid, by the places of an order as wished."""
    if len(laid) == len(shape):
        return []
    free = [k for k in samples.at_place(shape, wish, len(laid)) if k not in laid]
    return [k for k in free if samples.plain_fits(shape, laid, k)]


class Layings(Checks):
    def stands(self, laying, shape, wish, laid, ways):
        """All that a Laying tells is as reckoned of what is laid."""
        self.same(self.told(laying.laid), laid)
        self.same(self.told(laying.can), plain_can(shape, wish, laid))
        if len(shape) > 12:
            self.refused(TooMany, laying.live)
        else:
            self.same(self.told(laying.live), ways(sum(1 << k for k in laid)) > 0)

    def walk(self, shape, wish, deeds, dice):
        """Random deeds, those that are refused among them, with a look behind each."""
        laying = Laying(shape, wish)
        ways = samples.ways_by_masks(shape, wish)
        laid = []
        self.stands(laying, shape, wish, laid, ways)
        for _ in range(deeds):
            can = plain_can(shape, wish, laid)
            if dice.random() < 0.3:
                if laid:
                    self.same(laying.back(), laid.pop())
                else:
                    self.refused(NoFit, laying.back)
            else:
                k = dice.choice(can) if can and dice.random() < 0.7 else dice.randint(-1, len(shape))
                if k in can:
                    self.same(laying.lay(k), samples.plain_brings(shape, laid, k))
                    laid.append(k)
                else:
                    self.refused(NoFit, laying.lay, k)
            self.stands(laying, shape, wish, laid, ways)


class LayingTest(Layings):
    def test_by_hand(self):
        laying = Laying(samples.FAN, NO_WISH)
        self.assertEqual((laying.laid(), laying.can(), laying.live()), ([], [0, 1, 2], True))
        self.assertEqual(laying.lay(0), ())
        self.assertEqual((laying.laid(), laying.can(), laying.live()), ([0], [2], True))
        self.refused(NoFit, laying.lay, 1)
        self.assertEqual(laying.lay(2), (3,))
        self.assertEqual(laying.lay(1), (4,))
        self.assertEqual((laying.laid(), laying.can(), laying.live()), ([0, 2, 1], [], True))
        self.refused(NoFit, laying.lay, 0)
        self.assertEqual([laying.back(), laying.back()], [1, 2])
        self.assertEqual(laying.back(), 0)
        self.refused(NoFit, laying.back)
        self.assertEqual((laying.laid(), laying.can()), ([], [0, 1, 2]))

    def test_as_wished_by_hand(self):
        laying = Laying(samples.ROW, ((2, 1), (3,)))
        self.assertEqual((laying.can(), laying.live()), ([2], True))
        self.refused(NoFit, laying.lay, 1)
        self.assertEqual(laying.lay(2), ())
        self.assertEqual(laying.can(), [1])
        self.refused(NoFit, laying.lay, 3)
        self.assertEqual(laying.lay(1), (1,))
        self.assertEqual(laying.can(), [0])
        self.refused(NoFit, laying.lay, 3)
        self.assertEqual(laying.lay(0), (0,))
        self.assertEqual((laying.can(), laying.live()), ([3], True))
        self.assertEqual(laying.lay(3), (4,))
        self.assertEqual((laying.laid(), laying.can(), laying.live()), ([2, 1, 0, 3], [], True))

    def test_live_and_not(self):
        laying = Laying(samples.ROW, ((), (1,)))
        self.assertEqual((laying.can(), laying.live()), ([0, 2, 3], False))
        laying.lay(2)
        self.assertEqual((laying.can(), laying.live()), ([3], False))
        laying = Laying(samples.FAN, ((), (0,)))
        self.assertIs(laying.live(), True)
        self.assertEqual([laying.lay(2), laying.live(), laying.lay(1), laying.can()], [(), True, (4,), [0]])

    def test_a_beginning_from_which_no_order_goes_on(self):
        laying = Laying(samples.CAPPED, NO_WISH)
        lives = [laying.live()]
        for k in (9, 8, 7, 4):
            laying.lay(k)
            lives.append(laying.live())
        self.assertEqual(lives, [True, True, True, True, False])
        self.assertEqual(laying.can(), [])
        self.assertEqual((laying.back(), laying.live()), (4, True))
        # With one more piece some can still be laid, but not all.
        laying = Laying(samples.CAPPED + ((3, 4, 9),), NO_WISH)
        for k in (9, 8, 7, 4):
            laying.lay(k)
        self.assertEqual((laying.can(), laying.live()), ([11], False))
        self.assertEqual((laying.lay(11), laying.can(), laying.live()), ((9,), [], False))
        self.assertEqual((laying.back(), laying.back(), laying.live()), (11, 4, True))
        dice = random.Random(35)
        for wish in [NO_WISH, ((9, 8), ()), ((9, 8, 7), (10,)), *samples.some_wishes(samples.CAPPED, 5)]:
            self.walk(samples.CAPPED, wish, 30, dice)

    def test_a_way_that_ends(self):
        laying = Laying(samples.RING, ((), (0, 2)))
        self.assertEqual((laying.can(), laying.live()), ([1, 3], False))
        laying.lay(1)
        self.assertEqual((laying.can(), laying.live()), ([], False))
        self.refused(NoFit, laying.lay, 3)
        self.assertEqual(laying.back(), 1)

    def test_all_wishes_of_small_shapes(self):
        dice = random.Random(31)
        for shape in samples.SMALL + [samples.BAND[:4], samples.RANDOM[0]]:
            if len(shape) <= 4:
                for wish in samples.all_wishes(shape):
                    self.walk(shape, wish, 6, dice)

    def test_walks(self):
        dice = random.Random(32)
        for shape in samples.MORE_SHAPES:
            if len(shape) <= 12:
                for wish in [NO_WISH, *samples.some_wishes(shape, 2, seed=len(shape))]:
                    self.walk(shape, wish, 20 if len(shape) < 12 else 12, dice)

    def test_more_than_twelve(self):
        dice = random.Random(33)
        for shape in samples.FORTIES + [samples.TYRE] + [shape for shape, _ in samples.GROWN if len(shape) > 12]:
            for wish in [NO_WISH, *samples.some_wishes(shape, 1)]:
                self.walk(shape, wish, 6, dice)

    def test_whole_orders_of_more_than_twelve(self):
        for shape, order in samples.GROWN:
            laying = Laying(shape, (tuple(order[:3]), tuple(order[3:][-2:])))
            brought = [laying.lay(k) for k in order]
            self.assertEqual(list(zip(order, brought)), samples.plain_paper(shape, order))
            self.assertEqual((laying.laid(), laying.can()), (order, []))
            self.assertEqual([laying.back() for _ in order], order[::-1])
            self.refused(NoFit, laying.back)

    def test_what_is_no_number(self):
        for shape, laid in ((samples.DOTS, [1]), (samples.FAN, []), (samples.FAN, [2]), (samples.DOT, [0])):
            laying = Laying(shape, NO_WISH)
            for k in laid:
                laying.lay(k)
            for thing in NO_NUMBERS:
                self.refused(NoFit, laying.lay, thing)
                self.assertEqual(laying.laid(), laid)

    def test_truths(self):
        laying = Laying(samples.DOTS, NO_WISH)
        self.refused(NoFit, laying.lay, True)
        self.refused(NoFit, laying.lay, False)
        self.assertEqual(laying.laid(), [])

    def test_no_wish(self):
        for shape in (samples.DOT, samples.FAN, samples.RING, samples.TWELVE_ROW):
            for thing in NO_WISHES:
                self.refused(NoWish, Laying, shape, thing)
        for thing in (None, True, (), [(), ()], ((40,), ()), ((-1,), ()), ((0,), (0,)), ((True,), ()), ("", "")):
            for shape in samples.FORTIES:
                self.refused(NoWish, Laying, shape, thing)

    def test_two_beside_each_other(self):
        one, other = Laying(samples.RING, NO_WISH), Laying(samples.RING, NO_WISH)
        one.lay(0)
        self.assertEqual((other.laid(), other.can()), ([], [0, 1, 2, 3]))
        other.lay(2)
        self.assertEqual((one.laid(), one.can(), other.laid(), other.can()), ([0], [1, 3], [2], [1, 3]))
        third = Laying(samples.RING, ((), (0,)))
        self.assertEqual((one.live(), third.live(), one.back(), third.can()), (True, True, 0, [1, 2, 3]))
        self.assertEqual((one.laid(), other.laid(), third.laid()), ([], [2], []))

    def test_two_walks_beside_each_other(self):
        dice = random.Random(34)
        shapes = [(samples.FAN, NO_WISH), (samples.FAN, ((), (2,))), (samples.RING, ((1,), ())), (samples.RING, NO_WISH)]
        layings = [Laying(shape, wish) for shape, wish in shapes]
        ways = [samples.ways_by_masks(shape, wish) for shape, wish in shapes]
        laid = [[] for _ in shapes]
        for _ in range(120):
            at = dice.randrange(len(shapes))
            can = plain_can(*shapes[at], laid[at])
            if can and dice.random() < 0.6:
                laid[at].append(dice.choice(can))
                layings[at].lay(laid[at][-1])
            elif laid[at]:
                self.assertEqual(layings[at].back(), laid[at].pop())
            for place, (shape, wish) in enumerate(shapes):
                self.stands(layings[place], shape, wish, laid[place], ways[place])


if __name__ == "__main__":
    unittest.main()
