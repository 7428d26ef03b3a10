"""Points 2, 3, 14, 15: bars, and when each is let by."""

import copy
import itertools
import random
import unittest

import barsamples
import samples
from barsamples import RIGHT, plain_bars
from samples import NO_WISHES, NOTHINGS
from wholesides.bars import bars
from wholesides.errors import NoWish
from wholesides.shapes import faces
from wholesides.wishes import NO_WISH

WITH_ORDERS = [
    samples.DOT, samples.DOTS, samples.TWO_DOTS, samples.STICK, samples.ROW, samples.RING, samples.TRIANGLE_RIM,
    samples.TWO, samples.FAN, samples.PINCHED, samples.SOLID_RIM, samples.SIX_RIM]
THREES = [
    samples.FAN, samples.TRIANGLE_RIM, samples.NAMES, samples.ROW[:3], samples.BOW + ((5, 6, 7),),
    samples.DOTS[:3], samples.STICKS_APART + ((5, 6),), ((0, 1, 2, 3), (0, 1, 2, 4), (0, 3, 4, 5))]


class RightTest(unittest.TestCase):
    def test_each_is_let_by(self):
        for shape, wish, bar in RIGHT:
            self.assertTrue(plain_bars(shape, wish, bar), bar)
            self.assertIs(bars(shape, wish, bar), True, bar)

    def test_one_thing_amiss(self):
        right = wrong = 0
        for shape, wish, bar in RIGHT:
            if len(shape) > 12 and bar[0] == "sets":
                continue
            for thing in barsamples.amiss(bar):
                told = plain_bars(shape, wish, thing)
                self.assertIs(bars(shape, wish, thing), told, (shape, wish, thing))
                right, wrong = right + told, wrong + (not told)
        self.assertGreater(right, 100)
        self.assertGreater(wrong, 10000)

    def test_other_shapes_and_wishes(self):
        for (shape, wish, _), (_, _, bar) in itertools.product(RIGHT, repeat=2):
            self.assertIs(bars(shape, wish, bar), plain_bars(shape, wish, bar), (shape, wish, bar))
            self.assertIs(bars(shape, NO_WISH, bar), plain_bars(shape, NO_WISH, bar))

    def test_anything(self):
        for shape in samples.SMALL + [samples.EVENS_ONLY] + samples.FORTIES:
            for thing in NOTHINGS:
                self.assertIs(bars(shape, NO_WISH, thing), False)
                for word in ("apart", "counts", "unlike", "evens", "sets", "link", "order", "cut"):
                    self.assertIs(bars(shape, NO_WISH, (word, thing)), False, (word, thing))
                    self.assertIs(bars(shape, NO_WISH, (word, [thing])), False, (word, thing))
                    self.assertIs(bars(shape, NO_WISH, (word, (0,), thing)), False)
                    self.assertIs(bars(shape, NO_WISH, (word, thing, ("apart", [0]))), False)


class WordsTest(unittest.TestCase):
    def let(self, shape, *things, wish=NO_WISH):
        for thing in things:
            self.assertIs(bars(shape, wish, thing), True, thing)

    def not_let(self, shape, *things, wish=NO_WISH):
        for thing in things:
            self.assertIs(bars(shape, wish, thing), False, thing)

    def test_apart(self):
        shape = samples.TRIANGLES_APART + ((3, 4, 6), (8, 9, 10))
        self.let(shape, ("apart", [0]), ("apart", [1, 2]), ("apart", [0, 1, 2]), ("apart", [3]), ("apart", [0, 3]))
        self.not_let(
            shape, ("apart", []), ("apart", [0, 1, 2, 3]), ("apart", [1]), ("apart", [2, 1]), ("apart", [0, 0]),
            ("apart", [0, 4]), ("apart", [-1]), ("apart", [False]), ("apart", (0,)), ("apart", [0], None),
            ("apart",), ["apart", [0]], ("Apart", [0]), ("apart", [0, 1]), ("apart", ["0"]), ("apart", 0))

    def test_less_than_a_side_is_apart(self):
        self.let(samples.BOW, ("apart", [0]), ("apart", [1]))
        self.not_let(samples.FAN, ("apart", [0]), ("apart", [0, 2]))

    def test_pieces_of_one_corner_are_never_apart(self):
        self.not_let(samples.DOTS, ("apart", [0]), ("apart", [1, 2]))

    def test_counts(self):
        self.let(samples.BAND, ("counts", 3))
        for k in (0, 1, 2, 4, 5, -1, -2, None, True, "3", (3,), [3], samples.FIGURES_60):
            self.not_let(samples.BAND, ("counts", k))

    def test_unlike(self):
        self.assertEqual(samples.plain_brought(samples.CROSSED), [1, 3, 6, 0])
        self.let(samples.CROSSED, *[("unlike", k) for k in range(4)])
        for k in (-1, -2, 4, None, True, False, "0", (0,), [0], samples.FIGURES_60):
            self.not_let(samples.CROSSED, ("unlike", k))
        # Unlike, but not closed.
        self.not_let(samples.FAN, *[("unlike", k) for k in range(4)])
        self.not_let(samples.BAND, *[("unlike", k) for k in range(4)])
        # Closed, but alike.
        for shape in (samples.RING, samples.SOLID_RIM, samples.TWO_RINGS, samples.SEVEN_RIM):
            self.not_let(shape, *[("unlike", k) for k in range(7)])

    def test_unlike_alone(self):
        shape = samples.UNLIKE_ONLY
        self.assertEqual(samples.plain_brought(shape), [1, 5, 11, 21, 0, 2])
        self.let(shape, *[("unlike", k) for k in range(6)])
        self.not_let(shape, *[("counts", k) for k in range(6)], ("evens", [list(range(40))]), ("unlike", 6))

    def test_evens(self):
        # There is room for one.
        shape = samples.TWO_RINGS
        self.assertEqual(samples.plain_brought(shape)[-1], 1)
        self.let(shape, ("evens", [[3, 4, 5], [0, 1, 2]]), ("evens", [[0, 1, 2, 3, 4, 5], [3, 4, 5]]))
        self.not_let(
            shape, ("evens", []), ("evens", [[0, 1, 2]]), ("evens", [[3, 4, 5], [0, 1, 2], []]),
            ("evens", [[0, 1, 2, 3, 4, 5], [0, 1, 2]]), ("evens", [[0, 1, 2], [0, 1, 2]]),
            ("evens", [[0, 1, 2], [3, 4]]), ("evens", [[0, 1, 2], [5, 4, 3]]), ("evens", [(0, 1, 2), [3, 4, 5]]),
            ("evens", ([0, 1, 2], [3, 4, 5])), ("evens", [[0, True, 2], [3, 4, 5]]), ("evens", [[0, 1, 2], []]),
            ("evens", [[3, 4, 5], [0, 1, 2, 3, 4, 5]]), ("evens", [[0, 1, 2], [3, 4, 5], [3, 4, 5]]))

    def test_only_the_first_number_of_an_even_set_counts(self):
        shape = tuple(samples.TWO_RINGS[k] for k in (0, 3, 1, 4, 2, 5))
        self.let(shape, ("evens", [[0, 1, 2, 3, 4, 5], [1, 3, 5]]))
        self.not_let(shape, ("evens", [[0, 1, 2, 3, 4, 5], [0, 2, 4]]))

    def test_a_count_below_nought_leaves_no_room(self):
        self.assertEqual(samples.plain_brought(samples.TYRE)[-1], -1)
        self.let(samples.TYRE, ("evens", [list(range(14))]))
        self.not_let(samples.TYRE, ("evens", []), ("evens", [[]]))
        self.not_let(samples.BAND, ("evens", []), ("evens", [[]]))

    def test_links(self):
        right = ("apart", [0])
        shape = barsamples.LINKED
        self.let(shape, ("link", (100, 101, 102, 103), right), ("link", (100,), right), right)
        self.let(shape, ("link", (100,), ("link", (101, 102), ("link", (103,), right))))
        self.let(samples.BOW, ("link", (2,), right))
        self.not_let(
            samples.BOW, ("link", (), right), ("link", (0,), right), ("link", (7,), right), ("link", (1, 2), right),
            ("link", (0, 1, 2), right), ("link", (0, 3), right), ("link", [2], right), ("link", (True,), right),
            ("link", 2, right), ("link", (2,), ("apart", [])), ("link", (2,), ["apart", [0]]), ("link", (2,)),
            ("link", (2,), right, None), ("link", (2, 2), right), ("link", "2", right), ("link", None, right),
            ("apart", (2,), right), ("link", (2,), ("link", (2,), right)))

    def test_a_link_s_bar_is_for_no_wish(self):
        # Of the link's pieces 0 and 1 the wish names the first one; within the link it doesn't count.
        shape, face = barsamples.more_corners(samples.FAN, 1)
        for wish in (((0, 1), ()), ((), (2,))):
            inner = ("sets", barsamples.rows_without_cuts(samples.FAN, wish))
            self.let(shape, inner, wish=wish)
            self.not_let(shape, ("link", face, inner), wish=wish)
        inner = ("sets", barsamples.rows_without_cuts(samples.BOW, NO_WISH))
        self.let(barsamples.LINKED_SETS, ("link", barsamples.LINKED_SETS_BY, inner), wish=((0,), (1,)))

    def test_sets(self):
        none, zero, one = ((), None), ((0,), None), ((1,), None)
        self.let(samples.BOW, ("sets", [none, zero, one]), ("sets", [one, none, zero]))
        self.not_let(
            samples.BOW, ("sets", []), ("sets", [zero, one]), ("sets", [none]), ("sets", [none, zero]),
            ("sets", [none, one]), ("sets", [none, zero, one, zero]), ("sets", [none, none, zero, one]),
            ("sets", [none, zero, one, ((0, 1), None)]), ("sets", (none, zero, one)),
            ("sets", [none, zero, ((True,), None)]), ("sets", [none, zero, ([1], None)]),
            ("sets", [none, zero, [(1,), None]]), ("sets", [none, zero, ((1,),)]), ("sets", [none, zero, (1, None)]),
            ("sets", [none, zero, ((1,), None, None)]), ("sets", [none, zero, one, ((2,), None)]),
            ("sets", [none, zero, one, ((-1,), None)]), ("sets", [none, zero, ((1,), False)]),
            ("sets", [none, zero, ((1,), ())]), ("sets", [none, zero, ((1,), 0)]))

    def test_laid_numbers_rise(self):
        rows = barsamples.rows_without_cuts(samples.FAN, ((), (2,)))
        self.assertIn(((0,), None), rows)
        self.let(samples.FAN, ("sets", rows), wish=((), (2,)))
        # Of the last place's piece, laid already, nothing is asked.
        self.let(samples.FAN, ("sets", rows + [((0, 2), None)]), wish=((), (2,)))
        self.not_let(samples.FAN, ("sets", rows + [((2, 0), None)]), wish=((), (2,)))
        self.not_let(samples.FAN, ("sets", rows + [((0, 1), None)]), wish=((), (2,)))
        self.not_let(samples.FAN, ("sets", rows + [((1, 1), None)]), wish=((), (2,)))

    def test_a_next_piece_whose_row_is_missing(self):
        for wish in (((), (2,)), ((0, 2), ()), ((1,), (3, 2)), ((3,), (0, 1)), ((), (1,))):
            rows = barsamples.rows_without_cuts(samples.ROW, wish)
            self.let(samples.ROW, ("sets", rows), wish=wish)
            for at in range(len(rows)):
                self.not_let(samples.ROW, ("sets", rows[:at] + rows[at + 1:]), wish=wish)

    def test_cuts(self):
        none, right = ((), None), ((1,), (0, (2,)))
        wish = ((1,), ())
        self.let(samples.BOW, ("sets", [none, right]), wish=wish)
        # Nothing is laid, so no face lies in a laid piece, not even the empty one.
        self.not_let(samples.BOW, ("sets", [((), (0, ()))]), ("sets", [((), (0, (2,)))]), wish=wish)
        for cut in (
                (1, (2,)), (0, (0,)), (0, (3,)), (0, ()), (0, (0, 1, 2)), (0, (1, 2)), (2, (2,)), (-2, (2,)),
                (False, (2,)), (0, [2]), [0, (2,)], (0, (True,)), (0, 2), (0,), (0, (2,), None), (0, None)):
            told = plain_bars(samples.BOW, wish, ("sets", [none, ((1,), cut)]))
            self.assertIs(told, cut == (0, ()))
            self.assertIs(bars(samples.BOW, wish, ("sets", [none, ((1,), cut)])), told, cut)

    def test_a_cut_whose_sides_lie_in_another_piece(self):
        # Of FAN's last piece both sides at corner 2 lie in others, of its first one just one of them.
        wish = ((1, 0), ())
        self.let(samples.FAN, ("sets", [((), None), ((1,), None)]), wish=wish)
        self.not_let(
            samples.FAN, ("sets", [((), None), ((1,), (0, (2,)))]), ("sets", [((), None), ((1,), (2, (2,)))]),
            ("sets", [((), None), ((1,), (2, (3,)))]), wish=wish)

    def test_a_cut_is_for_whatever_comes(self):
        shape = samples.TWELVE_WHEEL
        rows = [((), None)] + [((k,), (11, (0,))) for k in range(11)] + [((11,), None)]
        self.let(shape, ("sets", rows))
        self.not_let(shape, ("sets", [((k,), None) if k == 4 else row for k, row in enumerate(rows, -1)]))
        self.not_let(shape, ("sets", rows[:5] + [((4,), (11, (20,)))] + rows[6:]))
        self.not_let(shape, ("sets", rows[:5] + [((4,), (5, (0,)))] + rows[6:]))

    def test_forty(self):
        shape = samples.FORTY_SIX_APART
        rows = [((), None)] + [((k,), (39 - k, ())) for k in range(40)]
        self.let(shape, ("sets", rows))
        self.let(shape, ("sets", [(laid, None) for laid, _ in rows]))
        self.not_let(shape, ("sets", rows[:-1]))
        self.not_let(samples.FORTY_ROW, ("sets", rows))
        self.let(samples.FORTY_ROW, ("sets", [((), None), ((0,), None)]), wish=((0, 2), (39,)))


class WishTest(unittest.TestCase):
    def test_no_wish_ahead_of_all(self):
        for shape in (samples.BOW, samples.FAN, samples.TWELVE_WHEEL):
            for wish in NO_WISHES:
                for thing in (("apart", [0]), ("sets", []), None, [], 5, ("link", (2,), ("apart", [0])), "nothing"):
                    with self.assertRaises(NoWish) as caught:
                        bars(shape, wish, thing)
                    self.assertIs(type(caught.exception), NoWish)

    def test_no_wish_of_right_bars(self):
        for shape, _, bar in RIGHT:
            for wish in (None, [(), ()], ((0,), (0,)), ((len(shape),), ()), ((True,), ()), ((), (-1,))):
                self.assertRaises(NoWish, bars, shape, wish, bar)


class NoOrderTest(unittest.TestCase):
    """Whatever is let by, no order is as wished."""

    def check(self, shape, wish, thing, orders):
        told = bars(shape, wish, thing)
        self.assertIs(told, plain_bars(shape, wish, thing), (shape, wish, thing))
        if told:
            self.assertFalse([o for o in orders if samples.plain_wished(wish, o)], (shape, wish, thing))
        return told

    def test_every_choice_of_sets(self):
        right = 0
        for shape in THREES:
            orders = samples.all_orders(shape)
            sets = [some for many in range(3) for some in itertools.combinations(range(3), many)]
            for wish in samples.all_wishes(shape):
                for chosen in itertools.product((False, True), repeat=len(sets)):
                    rows = [(laid, None) for laid, yes in zip(sets, chosen) if yes]
                    right += self.check(shape, wish, ("sets", rows), orders)
        self.assertGreater(right, 1000)

    def test_every_cut(self):
        right = 0
        for shape in THREES + [samples.BOW, samples.STICKS_APART, samples.PINCHED, samples.LINK_APART]:
            orders = samples.all_orders(shape)
            for laid in [(), *itertools.combinations(range(len(shape)), 1), (0, 1)]:
                for k, face in itertools.product(range(len(shape)), faces(shape)):
                    for wish in (NO_WISH, (laid[::-1], ()), (laid, ())):
                        rows = [(laid[:many], None) for many in range(len(laid))] + [(laid, (k, face))]
                        right += self.check(shape, wish, ("sets", rows), orders)
        self.assertGreater(right, 50)

    def test_every_small_word(self):
        right = 0
        shapes = [shape for shape in samples.SMALL + samples.RANDOM if len(shape) <= 6]
        for shape in shapes + [samples.BAND, samples.EVENS_ONLY, samples.LINK_APART, samples.TWO_RINGS]:
            orders = samples.all_orders(shape)
            some = [list(numbers) for many in range(len(shape) + 1)
                    for numbers in itertools.combinations(range(len(shape)), many)]
            words = [("apart", numbers) for numbers in some]
            words += [("counts", k) for k in range(-1, 8)] + [("unlike", k) for k in range(-1, 8)]
            words += [("evens", [numbers]) for numbers in some]
            words += [("evens", [one, two]) for one, two in itertools.product(some[:16], repeat=2)]
            links = [("link", face, ("apart", [0])) for face in faces(shape)]
            for word in words + links:
                right += self.check(shape, NO_WISH, word, orders)
        self.assertGreater(right, 50)

    def test_rows_as_wished(self):
        for seed, shape in enumerate(samples.SMALL + samples.RANDOM):
            if len(shape) <= 6:
                orders = samples.all_orders(shape)
                for wish in samples.some_wishes(shape, 6, seed):
                    none = not [o for o in orders if samples.plain_wished(wish, o)]
                    for rows in (barsamples.rows_without_cuts, barsamples.rows_with_cuts):
                        thing = ("sets", rows(shape, wish))
                        self.assertIs(self.check(shape, wish, thing, orders), none)

    def test_nothing_bars_what_has_an_order(self):
        dice = random.Random(3)
        things = [bar for _, _, bar in RIGHT]
        for shape in WITH_ORDERS:
            for bar in things:
                self.assertIs(bars(shape, NO_WISH, bar), False)
                others = list(itertools.islice(barsamples.amiss(bar), 400))
                for thing in dice.sample(others, min(20, len(others))):
                    self.assertIs(bars(shape, NO_WISH, thing), False)


class OwnTest(unittest.TestCase):
    def test_what_is_handed_in_stays(self):
        for shape, wish, bar in RIGHT:
            kept = copy.deepcopy(bar)
            bars(shape, wish, bar)
            self.assertEqual(bar, kept)


if __name__ == "__main__":
    unittest.main()
