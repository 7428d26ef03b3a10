"""Points 2, 5 and 25: a shape that is kept and changed."""

import random
import unittest

import samples
from checks import Checks
from samples import FIGURES_30, FIGURES_31, FIGURES_60, NO_WISHES, NOTHINGS
from wholesides.bars import bars
from wholesides.counts import brought_counts, face_counts
from wholesides.errors import NoPiece, NoShape, NoWish, TooMany
from wholesides.finds import answer
from wholesides.kept import Kept
from wholesides.papers import lets_by
from wholesides.tries import how_many
from wholesides.wishes import NO_WISH

NO_PIECES = [
    *NOTHINGS, 0, 1, (), [], [0], [0, 1], (1, 0), (0, 0), (0, 1, 1), (0, 1, 2, 3, 4, 5, 6), (0, True), (0, "1"),
    (0, None), (0, FIGURES_31), (-FIGURES_31, 0), {0: 1}, "0 1", ((0, 1),), FIGURES_60]
NO_NUMBERS = [*NOTHINGS, -1, -2, 40, FIGURES_60, -FIGURES_60, "0", (0,), [0], (), []]


def kept_of(shape):
    kept = Kept()
    for piece in shape:
        kept.lay(piece)
    return kept


class Keeps(Checks):
    def nothing_stands(self, kept):
        for ask in (kept.shape, kept.counts, kept.brought, kept.parts):
            self.refused(NoShape, ask)
        for wish in (NO_WISH, ((0,), ()), None, True, [], ((), (5, 5)), ((-1,), ())):
            self.refused(NoShape, kept.answer, wish)
            self.refused(NoShape, kept.how_many, wish)
        for thing in (0, -1, 1, None, True, "0", FIGURES_60):
            self.refused(NoPiece, kept.take, thing)

    def answered(self, kept, shape, wish):
        """An answer that is right, and how many orders there are."""
        word, told = self.told(kept.answer, wish)
        many = self.told(kept.how_many, wish)
        self.assertEqual(many, samples.ways_by_masks(shape, wish)(0))
        self.same((word, told), answer(shape, wish))
        self.assertEqual(word, "order" if many else "none")
        if many:
            self.assertTrue(lets_by(shape, told))
            self.assertEqual([k for k, _ in told], samples.first_by_masks(shape, wish))
        else:
            self.assertTrue(bars(shape, wish, told))

    def stands(self, kept, pieces, wishes=(NO_WISH,)):
        """All that a Kept tells is as told anew of the pieces."""
        if not pieces:
            return self.nothing_stands(kept)
        shape = tuple(pieces)
        self.same(self.told(kept.shape), shape)
        self.same(self.told(kept.counts), face_counts(shape))
        self.same(self.told(kept.brought), brought_counts(shape))
        self.same(self.told(kept.brought), samples.plain_brought(shape))
        self.same(self.told(kept.parts), samples.plain_parts(shape))
        for wish in wishes:
            if len(shape) > 12:
                self.refused(TooMany, kept.answer, wish)
                self.refused(TooMany, kept.how_many, wish)
            else:
                self.answered(kept, shape, wish)
        return None


class KeptTest(Keeps):
    def test_by_hand(self):
        kept = Kept()
        self.assertEqual([kept.lay((0, 1, 2)), kept.lay((2, 3, 4)), kept.lay((1, 2, 3))], [0, 1, 2])
        self.assertEqual(kept.shape(), samples.FAN)
        self.assertEqual((kept.counts(), kept.brought(), kept.parts()), ([1, 5, 7, 3], [1, 2, 0, 0], [[0, 1, 2]]))
        self.assertEqual(kept.answer(NO_WISH), ("order", [(0, ()), (2, (3,)), (1, (4,))]))
        self.assertEqual((kept.how_many(NO_WISH), kept.how_many(((1,), ()))), (4, 1))
        self.assertEqual(kept.take(0), (0, 1, 2))
        self.assertEqual(kept.shape(), ((2, 3, 4), (1, 2, 3)))
        self.assertEqual((kept.take(1), kept.take(0)), ((1, 2, 3), (2, 3, 4)))
        self.nothing_stands(kept)

    def test_nothing_at_first(self):
        self.nothing_stands(Kept())

    def test_another_size_once_nothing_stands(self):
        kept = Kept()
        for piece in ((1, 2), (3,), (0, 1, 2, 3, 4, 5), (-FIGURES_30, FIGURES_30)):
            self.assertEqual(kept.lay(piece), 0)
            self.stands(kept, [piece])
            for other in ((7,), (7, 8), (7, 8, 9, 10, 11), (7, 8, 9, 10, 11, 12)):
                if len(other) != len(piece):
                    self.refused(NoPiece, kept.lay, other)
            self.stands(kept, [piece])
            self.assertEqual(kept.take(0), piece)
            self.nothing_stands(kept)

    def test_what_is_no_piece(self):
        for shape in ((), samples.STICK, samples.DOT, samples.FAN):
            kept = kept_of(shape)
            for thing in NO_PIECES:
                self.refused(NoPiece, kept.lay, thing)
            self.stands(kept, shape)

    def test_a_piece_that_stands_already(self):
        for shape in samples.SMALL + samples.FORTIES:
            kept = kept_of(shape)
            for piece in (shape[0], shape[-1]):
                self.refused(NoPiece, kept.lay, piece)
            self.assertEqual(kept.shape(), shape)
            gone = kept.take(0)
            self.assertEqual(kept.lay(gone), len(shape) - 1)
            self.assertEqual(kept.shape(), shape[1:] + shape[:1])

    def test_what_is_no_number(self):
        for shape in ((), samples.FAN, samples.DOTS):
            kept = kept_of(shape)
            for thing in [*NO_NUMBERS, len(shape), len(shape) + 1, -len(shape)]:
                if not (type(thing) is int and 0 <= thing < len(shape)):
                    self.refused(NoPiece, kept.take, thing)
            self.stands(kept, shape)

    def test_truths_are_no_numbers(self):
        kept = kept_of(samples.FAN)
        self.refused(NoPiece, kept.take, True)
        self.refused(NoPiece, kept.take, False)
        self.assertEqual(kept.shape(), samples.FAN)

    def test_no_wish(self):
        for shape in (samples.DOT, samples.FAN, samples.TWELVE_ROW):
            kept = kept_of(shape)
            for thing in NO_WISHES:
                self.refused(NoWish, kept.answer, thing)
                self.refused(NoWish, kept.how_many, thing)
        kept = kept_of(samples.FORTY_ROW)
        for thing in (None, True, (), ((40,), ()), ((0,), (0,)), [(), ()]):
            self.refused(NoWish, kept.answer, thing)
            self.refused(NoWish, kept.how_many, thing)
        self.refused(TooMany, kept.answer, ((39,), ()))
        self.refused(TooMany, kept.how_many, ((39,), ()))

    def test_forty_and_a_forty_first(self):
        for shape in samples.FORTIES:
            kept = Kept()
            for number, piece in enumerate(shape):
                self.assertEqual(kept.lay(piece), number)
            more = tuple(range(10 ** 9, 10 ** 9 + len(shape[0])))
            self.refused(TooMany, kept.lay, more)
            self.stands(kept, shape)
            # What is no piece is refused as that, ahead of the room.
            for thing in (shape[0], shape[-1], (), None, more + (10 ** 10,), more[:-1], list(more), more[:1] * 2, True):
                self.refused(NoPiece, kept.lay, thing)
            self.assertEqual(kept.take(7), shape[7])
            self.assertEqual(kept.lay(more), 39)
            self.refused(TooMany, kept.lay, shape[7])
            self.stands(kept, shape[:7] + shape[8:] + (more,))

    def test_walks(self):
        dice = random.Random(41)
        pools = [samples.TWELVE_TRIANGLES + samples.PINCHED, samples.TWELVE_ROW + samples.RING + samples.DOTS,
                 samples.SIX_RIM + samples.DOTS + ((0, 1, 2, 3, 9),), samples.FORTY_DOTS[:9] + samples.STICK]
        for pool in pools:
            for _ in range(6):
                self.walk(pool, dice)

    def walk(self, pool, dice):
        """Random deeds, those that are refused among them, with a look behind each."""
        kept, pieces = Kept(), []
        for _ in range(25):
            if dice.random() < 0.6:
                piece = dice.choice(pool)
                if piece in pieces or pieces and len(piece) != len(pieces[0]):
                    self.refused(NoPiece, kept.lay, piece)
                else:
                    self.same(kept.lay(piece), len(pieces))
                    pieces.append(piece)
            else:
                k = dice.randint(-1, len(pieces))
                if 0 <= k < len(pieces):
                    self.same(kept.take(k), pieces.pop(k))
                else:
                    self.refused(NoPiece, kept.take, k)
            wishes = list(samples.some_wishes(tuple(pieces), 1, dice.random())) if pieces else []
            self.stands(kept, pieces, [NO_WISH, *wishes])

    def test_beginnings_from_which_no_order_goes_on(self):
        kept = kept_of(samples.CROSSED)
        self.stands(kept, samples.CROSSED)
        kept.lay((0, 1, 2))
        wishes = [NO_WISH, ((9, 8, 7), ()), ((9, 8, 7, 4), ()), ((), (0, 1))]
        self.stands(kept, samples.CAPPED, wishes)

    def test_two_beside_each_other(self):
        one, other = Kept(), Kept()
        one.lay((0, 1))
        self.nothing_stands(other)
        other.lay((0,))
        self.stands(one, [(0, 1)])
        self.stands(other, [(0,)])
        one.take(0)
        self.stands(other, [(0,)])


if __name__ == "__main__":
    unittest.main()
