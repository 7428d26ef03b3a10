"""Points 1 to 3 and the interface, over the whole program."""

import importlib
import inspect
import random
import unittest

import barsamples
import samples
from checks import Checks
from samples import NO_WISHES, NOTHINGS, plain_paper
from wholesides import errors
from wholesides.desk import Desk
from wholesides.kept import Kept
from wholesides.laying import Laying
from wholesides.wishes import NO_WISH

# Each function of the interface, with the number of its arguments.
FUNCTIONS = {
    "faces": {"is_face": 1, "is_corner": 1, "faces_in": 1, "sides_of": 1},
    "shapes": {"is_shape": 1, "shape_of": 1, "corners": 1, "faces": 1, "has": 2, "holders": 2},
    "counts": {"face_counts": 1, "brought_counts": 1, "counts_from": 1, "brought_from": 1},
    "steps": {"shared": 3, "fits": 3, "brings": 3, "nexts": 2},
    "orders": {"is_order": 2, "fault_of": 2},
    "papers": {"paper_of": 2, "fault": 2, "lets_by": 2, "order_in": 1, "bringer": 3},
    "wishes": {"is_wish": 2, "is_wished": 2, "allowed": 3},
    "tries": {"first_order": 2, "how_many": 2, "some_orders": 3},
    "together": {"parts": 1, "holds_together": 1},
    "bars": {"bars": 3},
    "finds": {"cheap_bar": 1, "answer": 2},
    "makes": {"link": 2, "join": 2, "sides": 1, "part": 2},
    "carried": {"link_paper": 3, "join_paper": 4, "sides_paper": 2, "split_paper": 3, "begun": 3},
    "closed": {"is_closed": 1, "at_most_two": 1, "rim": 1, "turned": 2},
    "evens": {"is_even": 2, "even_sets": 1, "even_of": 3},
    "shrinks": {"left": 3, "shrinking": 2},
    "names": {"renamed": 2, "renamed_paper": 2, "renamed_bar": 2},
    "texts": {"show_shape": 1, "read_shape": 1, "show_paper": 1, "read_paper": 1},
    "bartexts": {"show_bar": 1, "read_bar": 1},
}
CLASSES = {
    Laying: {"lay": 1, "back": 0, "laid": 0, "can": 0, "live": 0},
    Kept: {"lay": 1, "take": 1, "shape": 0, "counts": 0, "brought": 0, "parts": 0, "answer": 1, "how_many": 1},
    Desk: {"say": 1},
}
ALL = {name: getattr(importlib.import_module("wholesides." + module), name)
       for module, told in FUNCTIONS.items() for name in told}
REFUSALS = [thing for thing in vars(errors).values() if isinstance(thing, type) and thing != errors.SideError]
# What each function may refuse with; those that are not named here refuse nothing.
MAY_REFUSE = {
    "shape_of": {"NoShape"}, "paper_of": {"NoOrder"}, "bringer": {"NoFace"},
    **{name: {"NoWish", "TooMany"} for name in ("first_order", "how_many", "some_orders", "answer")},
    "bars": {"NoWish"}, "link": {"NoFace"}, "join": {"NoCorner", "TooMany"}, "sides": {"NoShape", "TooMany"},
    "part": {"NoPiece"}, "link_paper": {"NoFace"}, "join_paper": {"NoCorner", "TooMany"},
    "sides_paper": {"NoShape", "TooMany"}, "split_paper": {"NoCorner", "TooMany"}, "begun": {"NoPiece"},
    "rim": {"NoShape", "TooMany"}, "turned": {"NotClosed"}, "even_of": {"NoPiece"}, "left": {"NoPiece", "NoShrink"},
    "renamed": {"NoCorner"}, "read_shape": {"NoText"}, "read_paper": {"NoText"}, "read_bar": {"NoText"},
}


def asked_of(shape, dice):
    """Tuples of a function's name and arguments, of any shape."""
    numbers = list(range(len(shape)))
    laid = dice.sample(numbers, dice.randint(0, len(shape) - 1))
    k = dice.choice([k for k in numbers if k not in laid])
    shuffled = dice.sample(numbers, len(numbers))
    held = samples.subsets(dice.choice(shape))
    face = dice.choice(held)
    wish = dice.choice(list(samples.some_wishes(shape, 3)))
    yield from [(name, (shape,)) for name in (
        "is_shape", "corners", "faces", "face_counts", "brought_counts", "parts", "holds_together", "cheap_bar", "sides",
        "is_closed", "at_most_two", "rim", "even_sets", "show_shape")]
    yield "shape_of", ([list(piece)[::-1] for piece in shape],)
    yield from [(name, (face,)) for name in ("is_face", "faces_in", "sides_of")]
    yield from [(name, (shape, face)) for name in ("has", "holders", "link")]
    yield from [(name, (shape, laid, k)) for name in ("shared", "fits", "brings")]
    yield from [("nexts", (shape, laid)), ("part", (shape, laid)), ("is_even", (shape, laid)), ("left", (shape, laid, []))]
    yield from [(name, (shape, shuffled)) for name in ("is_order", "fault_of", "paper_of")]
    yield from [("is_wish", (shape, wish)), ("allowed", (shape, NO_WISH, laid)), ("renamed", (shape, samples.far_names(shape)))]
    yield from [(name, (shape, wish)) for name in ("first_order", "how_many", "answer")]
    yield from [("some_orders", (shape, wish, 3)), ("join", (shape, ((10 ** 29 + 1,),))), ("renamed", (shape, {0: 1, 2: 3}))]
    yield "left", (shape, [], [(held[0], held[-1]), (face, held[-1])])


def asked_of_paper(shape, order, dice):
    """The same, of a shape and its paper."""
    paper = plain_paper(shape, order)
    face = dice.choice(samples.subsets(dice.choice(shape)))
    dot = ((10 ** 29 + 1,),)
    yield from [(name, (shape, paper)) for name in ("fault", "lets_by", "sides_paper", "turned", "shrinking")]
    yield from [("order_in", (paper,)), ("show_paper", (paper,)), ("bringer", (shape, paper, face))]
    yield from [("link_paper", (shape, paper, face)), ("begun", (shape, paper, dice.randint(0, len(shape) + 1)))]
    yield from [("even_of", (shape, paper, k)) for k in (0, order[-1])]
    yield from [("join_paper", (shape, dot, paper, [(0, ())])), ("split_paper", (shape, dot, paper))]
    yield from [("renamed_paper", (paper, samples.far_names(shape))), ("is_wished", (((order[0],), ()), order))]
    if len(shape[0]) < 6:
        rows = [(k, brought) for k, brought in paper]
        yield "split_paper", (dot, shape, rows)
    taken, rows = ALL["shrinking"](shape, paper)
    yield from [("left", (shape, taken, rows)), ("left", (shape, taken, rows[1:])), ("left", (shape, taken[1:], rows))]


class InterfaceTest(unittest.TestCase):
    def test_functions_and_their_arguments(self):
        for module, told in FUNCTIONS.items():
            for name, many in told.items():
                function = getattr(importlib.import_module("wholesides." + module), name)
                self.assertTrue(inspect.isfunction(function), name)
                self.assertEqual(len(inspect.signature(function).parameters), many, name)
                self.assertEqual(function.__module__, "wholesides." + module)

    def test_classes_and_their_own_methods(self):
        for kind, told in CLASSES.items():
            for name, many in told.items():
                self.assertTrue(inspect.isfunction(vars(kind)[name]), name)
                self.assertEqual(len(inspect.signature(vars(kind)[name]).parameters), many + 1, name)

    def test_no_wish(self):
        self.assertEqual(NO_WISH, ((), ()))


class WholeTest(Checks):
    def asked(self, name, things, seen):
        """Told plainly and as the asker's own, or refused with a class that is told for it."""
        ask = ALL[name]
        try:
            ask(*things)
        except errors.SideError as error:
            self.assertIn(type(error).__name__, MAY_REFUSE.get(name, ()), name)
            self.refused(type(error), ask, *things)
            seen.add((name, type(error)))
        else:
            self.told(ask, *things)
            seen.add((name, None))

    def test_every_function(self):
        dice = random.Random(51)
        seen = set()
        shapes = samples.SMALL + samples.RANDOM[:20] + samples.CLOSED + samples.BARRED + samples.FORTIES
        for shape in shapes:
            for name, things in asked_of(shape, dice):
                self.asked(name, things, seen)
        for shape, order in samples.GROWN + [(shape, samples.an_order(shape)) for shape in samples.CLOSED[:8]]:
            for name, things in asked_of_paper(shape, order, dice):
                self.asked(name, things, seen)
        for shape, wish, bar in barsamples.RIGHT:
            for name, things in (("bars", (shape, wish, bar)), ("show_bar", (bar,)), ("renamed_bar", (bar, {0: -7, 2: -9}))):
                self.asked(name, things, seen)
        for text in ("piece 1 2\npiece 2 3", "lay 0\nlay 1 4", "link 3\nset\ncut 0 by 1 2", "even 0 1\neven 2", "apart 3"):
            for name in ("read_shape", "read_paper", "read_bar"):
                self.asked(name, (text,), seen)
        for name in ("counts_from", "brought_from"):
            for many in range(1, 8):
                self.asked(name, ([dice.randint(-10 ** 60 + 1, 10 ** 60 - 1) for _ in range(many)],), seen)
        for corner in (0, -5, 10 ** 30, None, "0"):
            self.asked("is_corner", (corner,), seen)
        self.assertEqual({name for name, error in seen if error is None}, set(ALL))

    def test_anything_where_anything_may_be_handed_in(self):
        seen = set()
        for thing in NOTHINGS + NO_WISHES + [0, 1, -1, (0,), [0], [], ()]:
            for name in ("is_face", "is_corner", "is_shape", "shape_of", "read_shape", "read_paper", "read_bar"):
                self.asked(name, (thing,), seen)
            for shape in (samples.DOT, samples.FAN):
                paper = plain_paper(shape, samples.an_order(shape))
                for name in ("is_order", "lets_by", "is_wish", "first_order", "how_many", "answer"):
                    self.asked(name, (shape, thing), seen)
                for name, things in (("some_orders", (shape, thing, 2)), ("bars", (shape, NO_WISH, thing)),
                                     ("bars", (shape, thing, ("apart", [0]))), ("begun", (shape, paper, thing)),
                                     ("even_of", (shape, paper, thing)), ("part", (shape, [thing])),
                                     ("left", (shape, [thing], []))):
                    self.asked(name, things, seen)

    def test_no_refusal_is_another_one(self):
        self.assertEqual(len(REFUSALS), 13)
        for kind in REFUSALS:
            self.assertEqual([other for other in REFUSALS if issubclass(kind, other)], [kind])
            self.assertEqual(kind.__bases__, (errors.SideError,))

    def test_at_the_heart(self):
        # No shape has both an order as wished and a bar; each has one of them, and its checker lets it by.
        for shape in samples.SMALL + samples.RANDOM + samples.BARRED:
            if len(shape) <= 8:
                for wish in [NO_WISH, *samples.some_wishes(shape, 2)]:
                    word, told = ALL["answer"](shape, wish)
                    many = samples.ways_by_masks(shape, wish)(0)
                    self.assertEqual(word, "order" if many else "none")
                    self.assertIs(ALL["lets_by"](shape, told), many > 0)
                    self.assertIs(ALL["bars"](shape, wish, told), many == 0)


if __name__ == "__main__":
    unittest.main()
