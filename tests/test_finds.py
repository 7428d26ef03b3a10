"""Points 2, 11, 13 to 16: bars that are found, and the answer."""

import copy
import itertools
import random
import unittest

import barsamples
import samples
from barsamples import plain_bars
from samples import MORE_SHAPES, NO_WISHES
from wholesides.bars import bars
from wholesides.errors import NoWish, TooMany
from wholesides.finds import answer, cheap_bar
from wholesides.papers import lets_by, paper_of
from wholesides.wishes import NO_WISH


def grown(seed):
    """A shape of at most twelve pieces that holds together, with or without an order."""
    dice = random.Random(seed)
    size = dice.choice([2, 3, 3, 4, 4, 5, 6])
    names = range(size + dice.randint(2, 4))
    pieces = [tuple(names[:size])]
    for _ in range(dice.randint(3, 30)):
        kept = dice.sample(dice.choice(pieces), size - 1)
        piece = tuple(sorted({*kept, dice.choice(names)}))
        if len(piece) == size and piece not in pieces and len(pieces) < 12:
            pieces.append(piece)
    dice.shuffle(pieces)
    return tuple(pieces)


GROWN = [grown(seed) for seed in range(150)]


def barred_itself(shape):
    """Whether one of the words (a) to (d) bars the shape itself."""
    brought = samples.plain_brought(shape)
    if len(samples.plain_parts(shape)) > 1 or min(brought) < 0:
        return True
    if samples.plain_closed(shape) and brought != brought[::-1]:
        return True
    return samples.even_dimension(shape) > brought[-1]


def barred_cheaply(shape):
    """The same, or one of its links."""
    found = {face for piece in shape for face in samples.subsets(piece) if len(face) < len(piece)}
    return any(barred_itself(samples.plain_link(shape, face)) for face in found)


def words(bar):
    return [bar[0]] + (words(bar[2]) if bar[0] == "link" else [])


class CheapBarTest(unittest.TestCase):
    def check(self, shape):
        bar = cheap_bar(shape)
        self.assertIs(bar is not None, barred_cheaply(shape), shape)
        if bar is not None:
            self.assertNotIn("sets", words(bar))
            self.assertIs(bars(shape, NO_WISH, bar), True)
            self.assertTrue(plain_bars(shape, NO_WISH, bar))
        return bar

    def test_by_hand(self):
        for shape in samples.BARRED + [samples.TYRE]:
            self.assertIsNotNone(self.check(shape))
        for shape in (samples.DOT, samples.DOTS, samples.ROW, samples.RING, samples.FAN, samples.SEVEN_RIM):
            self.assertIsNone(self.check(shape))

    def test_just_one_way(self):
        self.assertEqual(words(cheap_bar(samples.BAND)), ["counts"])
        self.assertEqual(words(cheap_bar(samples.EVENS_ONLY)), ["evens"])
        self.assertEqual(words(cheap_bar(samples.LINK_APART))[0], "link")
        self.assertEqual(words(cheap_bar(samples.LINK_COUNTS))[0], "link")
        self.assertEqual(words(cheap_bar(samples.LINK_EVENS))[0], "link")

    def test_unlike_alone(self):
        self.assertEqual(words(self.check(samples.UNLIKE_ONLY)), ["unlike"])
        self.assertEqual(words(self.check(tuple(samples.NINE))), ["counts"])

    def test_all_shapes(self):
        for shape in MORE_SHAPES + [barsamples.LINKED, barsamples.LINKED_SETS]:
            self.check(shape)

    def test_grown_shapes(self):
        found = [words(bar)[0] for bar in map(self.check, GROWN) if bar is not None]
        self.assertGreater(len(found), 20)
        self.assertLess(len(found), 130)

    def test_forty(self):
        dice = random.Random(6)
        for size, names in ((1, 50), (2, 12), (3, 9), (4, 8), (5, 8), (6, 9)):
            choice = list(itertools.combinations(range(names), size))
            self.check(tuple(choice[:40]))
            self.check(tuple(dice.sample(choice, 40)))
        # A long row of greatest pieces, which has an order.
        self.assertIsNone(self.check(tuple(tuple(range(k, k + 6)) for k in range(40))))

    def test_what_has_an_order_is_not_barred(self):
        for shape in MORE_SHAPES + GROWN:
            if samples.an_order(shape) is not None:
                self.assertIsNone(cheap_bar(shape))


class AnswerTest(unittest.TestCase):
    def check(self, shape, wish):
        told = answer(shape, wish)
        first = samples.first_by_masks(shape, wish)
        self.assertIs(type(told), tuple)
        self.assertEqual(len(told), 2)
        if first is not None:
            self.assertEqual(told, ("order", paper_of(shape, first)), (shape, wish))
            self.assertTrue(lets_by(shape, told[1]))
        else:
            self.assertEqual(told[0], "none")
            self.assertIs(bars(shape, wish, told[1]), True, (shape, wish, told))
        return told

    def test_by_hand(self):
        self.assertEqual(answer(samples.DOT, NO_WISH), ("order", [(0, ())]))
        self.assertEqual(answer(samples.TWO, NO_WISH), ("order", [(0, ()), (1, (3,))]))
        self.assertEqual(answer(samples.TWO, ((1,), ())), ("order", [(1, ()), (0, (0,))]))
        self.assertEqual(answer(samples.FAN, ((), (0,))), ("order", [(1, ()), (2, (1,)), (0, (0,))]))
        for wish in (((), (2,)), ((0, 1), ()), ((0,), (2,))):
            self.assertEqual(self.check(samples.FAN, wish)[1][0], "sets")

    def test_every_wish_of_small_shapes(self):
        for shape in samples.SMALL:
            if len(shape) <= 4:
                for wish in samples.all_wishes(shape):
                    told = self.check(shape, wish)
                    if told[0] == "none":
                        self.assertTrue(plain_bars(shape, wish, told[1]))

    def test_shapes_without_an_order(self):
        for seed, shape in enumerate(samples.BARRED):
            for wish in [NO_WISH, *samples.some_wishes(shape, 3, seed)]:
                self.assertEqual(self.check(shape, wish)[0], "none")

    def test_wishes(self):
        many = 0
        for seed, shape in enumerate(samples.SMALL + samples.RANDOM + GROWN):
            for wish in [NO_WISH, *samples.some_wishes(shape, 3, seed)]:
                told = self.check(shape, wish)
                many += told[0] == "none" and told[1][0] == "sets"
        self.assertGreater(many, 20)

    def test_twelve(self):
        for seed, shape in enumerate(samples.TWELVES):
            for wish in [NO_WISH, *samples.some_wishes(shape, 3, seed)]:
                self.check(shape, wish)

    def test_far_too_many_sets_without_an_order(self):
        # All but the last place can be filled in any way.
        wish = ((), (10, 11))
        shape = tuple((0, 1, k) for k in range(2, 12)) + ((2, 3, 20), (2, 3, 21))
        self.assertEqual(self.check(shape, wish)[0], "none")
        shape = samples.TWELVE_STAR[:10] + ((20, 21), (1, 20))
        self.assertEqual(self.check(shape, ((), (10, 11)))[1][0], "sets")
        self.assertEqual(self.check(shape, ((), (11, 10)))[0], "order")


class RefusalTest(unittest.TestCase):
    def refused(self, error, shape, wish):
        with self.assertRaises(error) as caught:
            answer(shape, wish)
        self.assertIs(type(caught.exception), error)

    def test_no_wish(self):
        for shape in (samples.FAN, samples.BOW, samples.TWELVE_ROW):
            for wish in NO_WISHES:
                self.refused(NoWish, shape, wish)

    def test_too_many(self):
        thirteen = samples.TWELVE_APART + ((30, 31, 32),)
        for shape in samples.FORTIES + [samples.TYRE, thirteen, samples.FORTY_DOTS[:13]]:
            self.refused(TooMany, shape, NO_WISH)
            self.refused(TooMany, shape, ((0,), (12,)))
            for wish in (((0,), (0,)), None, ((len(shape),), ()), [(), ()], ((True,), ())):
                self.refused(NoWish, shape, wish)


class OwnTest(unittest.TestCase):
    def test_the_lists_are_the_askers_own(self):
        asks = [lambda shape=shape: cheap_bar(shape) for shape in (samples.BOW, samples.EVENS_ONLY, samples.LINK_EVENS)]
        asks += [lambda shape=shape: answer(shape, NO_WISH)[1] for shape in (samples.BOW, samples.EVENS_ONLY)]
        asks += [lambda: ("", answer(samples.FAN, NO_WISH)[1]), lambda: answer(samples.FAN, ((), (2,)))[1]]
        for ask in asks:
            told = ask()
            kept = copy.deepcopy(told)
            inner = told[2][1] if told[0] == "link" else told[1]
            if isinstance(inner[0], list):
                inner[0].append("more")
            inner.append("more")
            inner[0] = "other"
            self.assertEqual(ask(), kept)


if __name__ == "__main__":
    unittest.main()
