"""Points 2 and 23: shapes and papers as texts."""

import random
import unittest

import samples
from checks import Checks
from samples import FIGURES_30, plain_paper
from textsamples import NO_NUMBERS, NO_TEXTS, changed, plain_number, rising_face
from wholesides.errors import NoText
from wholesides.shapes import is_shape
from wholesides.texts import read_paper, read_shape, show_paper, show_shape

SHAPES = samples.MORE_SHAPES + [shape for shape, order in samples.GROWN]


def plain_shape(text):
    """The shape and None, or None and the first wrong line."""
    pieces = []
    for at, line in enumerate(text.split("\n")):
        word, *rest = line.split(" ")
        numbers = tuple(map(plain_number, rest))
        if word != "piece" or not numbers or not rising_face(numbers) or numbers in pieces or len(pieces) == 40:
            return None, at
        if pieces and len(numbers) != len(pieces[0]):
            return None, at
        pieces.append(numbers)
    return tuple(pieces), None


def plain_rows(text):
    """The paper and None, or None and the first wrong line."""
    rows = []
    for at, line in enumerate(text.split("\n")):
        word, *rest = line.split(" ")
        numbers = tuple(map(plain_number, rest))
        if word != "lay" or not numbers or None in numbers or numbers[0] < 0 or not rising_face(numbers[1:]):
            return None, at
        rows.append((numbers[0], numbers[1:]))
    return rows, None


class Texts(Checks):
    def read_as(self, read, show, plain, text):
        """Read as the plain reading says, and shown by that very text again; whether it is read at all."""
        thing, line = plain(text)
        if line is None:
            self.same(self.told(read, text), thing)
            self.same(self.told(show, thing), text)
        else:
            self.refused(NoText, read, text, line=line)
        return line is None


class ShapeTextTest(Texts):
    def looked_at(self, text):
        return self.read_as(read_shape, show_shape, plain_shape, text)

    def test_by_hand(self):
        self.assertEqual(self.told(show_shape, samples.TWO), "piece 0 1 2\npiece 1 2 3")
        self.assertEqual(self.told(show_shape, samples.DOT), "piece 7")
        self.assertEqual(show_shape(((-3, 0),)), "piece -3 0")
        self.assertEqual(self.told(read_shape, "piece 1 2 3\npiece 0 1 2"), ((1, 2, 3), (0, 1, 2)))
        self.assertEqual(self.told(read_shape, "piece -12"), ((-12,),))
        self.assertEqual(show_shape(((-FIGURES_30, FIGURES_30),)), "piece -" + "9" * 30 + " " + "9" * 30)
        self.assertEqual(read_shape("piece -" + "9" * 30 + " " + "9" * 30), ((-FIGURES_30, FIGURES_30),))

    def test_all_shapes(self):
        for shape in SHAPES:
            text = self.told(show_shape, shape)
            self.assertEqual(text, "\n".join("piece" + "".join(f" {corner}" for corner in piece) for piece in shape))
            self.same(self.told(read_shape, text), shape)

    def test_what_is_no_text(self):
        for thing in NO_TEXTS:
            self.refused(NoText, read_shape, thing, line=0)

    def test_lines_that_are_none(self):
        wrong = ["", " ", "piece", "piece ", " piece 1 2", "piece 1 2 ", "piece  1 2", "piece 1  2", "Piece 1 2",
                 "pieces 1 2", "piec 1 2", "lay 1 2", "1 2", "piece1 2", "piece\t1 2", "piece 1\t2", "piece 2 1",
                 "piece 1 1", "piece 1 2 3 4 5 6 7", "piece piece 1", "piece 1,2", "piece -1 -2", "piece 1 0"]
        wrong += [f"piece {word}" for word in NO_NUMBERS] + [f"piece 0 {word}" for word in NO_NUMBERS]
        for line in wrong:
            self.refused(NoText, read_shape, line, line=0)
            self.refused(NoText, read_shape, line + "\npiece 8 9", line=0)
            self.refused(NoText, read_shape, "piece 8 9\n" + line, line=1)
            self.refused(NoText, read_shape, "piece 8 9\npiece 9 10\n" + line + "\nand more", line=2)

    def test_a_line_end_too_many(self):
        self.refused(NoText, read_shape, "piece 1 2\n", line=1)
        self.refused(NoText, read_shape, "\npiece 1 2", line=0)
        self.refused(NoText, read_shape, "piece 1 2\n\npiece 2 3", line=1)
        self.refused(NoText, read_shape, "\n", line=0)
        self.refused(NoText, read_shape, "\n" * 300, line=0)

    def test_lines_that_make_no_shape_with_those_ahead(self):
        self.refused(NoText, read_shape, "piece 1 2\npiece 1 2", line=1)
        self.refused(NoText, read_shape, "piece 1 2\npiece 2 3\npiece 1 2", line=2)
        self.refused(NoText, read_shape, "piece 1 2\npiece 2 3\npiece 3", line=2)
        self.refused(NoText, read_shape, "piece 1\npiece 2 3\npiece", line=1)
        self.refused(NoText, read_shape, "piece 1 2 3 4 5 6\npiece 2 3 4 5 6 7\npiece 1 2 3 4 5", line=2)

    def test_forty_and_forty_one(self):
        for shape in samples.FORTIES:
            text = show_shape(shape)
            self.same(read_shape(text), shape)
            more = " ".join(str(10 ** 9 + k) for k in range(len(shape[0])))
            self.refused(NoText, read_shape, text + "\npiece " + more, line=40)
            self.refused(NoText, read_shape, text + "\npiece " + more + "\nno line", line=40)
            self.refused(NoText, read_shape, text + "\n", line=40)

    def test_six_corners_and_seven(self):
        self.assertEqual(read_shape("piece 1 2 3 4 5 6"), ((1, 2, 3, 4, 5, 6),))
        self.refused(NoText, read_shape, "piece 1 2 3 4 5 6 7", line=0)

    def test_long_texts(self):
        self.refused(NoText, read_shape, "~" * 10000, line=0)
        self.refused(NoText, read_shape, "piece 1 2" + "\npiece 1 2" * 1500, line=1)
        self.refused(NoText, read_shape, "piece " + "9" * 10000, line=0)
        self.refused(NoText, read_shape, "piece" + " 1" * 5000, line=0)
        self.refused(NoText, read_shape, "\n".join(f"piece {k}" for k in range(1200)), line=40)

    def test_texts_with_something_otherwise(self):
        dice = random.Random(12)
        read = 0
        for shape in random.Random(1).sample(SHAPES, 60):
            for _ in range(40):
                read += self.looked_at(changed(show_shape(shape), dice))
        self.assertGreater(read, 100)

    def test_what_is_read_is_a_shape(self):
        dice = random.Random(13)
        for _ in range(2000):
            text = changed(changed("piece 1 2\npiece 2 3", dice), dice)
            if plain_shape(text)[1] is None:
                self.assertTrue(is_shape(read_shape(text)))


class PaperTextTest(Texts):
    def looked_at(self, text):
        return self.read_as(read_paper, show_paper, plain_rows, text)

    def test_by_hand(self):
        self.assertEqual(self.told(show_paper, [(0, ()), (1, (3,))]), "lay 0\nlay 1 3")
        self.assertEqual(self.told(show_paper, [(0, ())]), "lay 0")
        self.assertEqual(self.told(read_paper, "lay 0\nlay 1 3"), [(0, ()), (1, (3,))])
        self.assertEqual(self.told(read_paper, "lay 3 -1 0 1 2 3 4"), [(3, (-1, 0, 1, 2, 3, 4))])

    def test_all_papers(self):
        for shape, order in samples.ordered():
            paper = plain_paper(shape, order)
            text = self.told(show_paper, paper)
            lines = ["lay " + " ".join(map(str, (k, *brought))) for k, brought in paper]
            self.assertEqual(text, "\n".join(lines))
            self.same(self.told(read_paper, text), paper)

    def test_rows_of_no_shape(self):
        for rows in ([(0, ()), (0, ())], [(5, (1, 2)), (5, (1, 2)), (0, ())], [(FIGURES_30, (-FIGURES_30, FIGURES_30))],
                     [(7, (1, 2, 3, 4, 5, 6))], [(k, (k,)) for k in range(100)]):
            self.same(self.told(read_paper, show_paper(rows)), rows)

    def test_what_is_no_text(self):
        for thing in NO_TEXTS:
            self.refused(NoText, read_paper, thing, line=0)

    def test_lines_that_are_none(self):
        wrong = ["", " ", "lay", "lay ", " lay 0", "lay 0 ", "lay  0", "lay 0  1", "Lay 0", "lays 0", "la 0", "piece 0",
                 "0 1", "lay0", "lay -1", "lay -1 2", "lay 0 2 1", "lay 0 1 1", "lay 0 1 2 3 4 5 6 7", "lay lay 0",
                 "lay 0,1", "lay 0 -1 -2", "lay 0 ()", "lay\t0", "lay 0\t1"]
        wrong += [f"lay {word}" for word in NO_NUMBERS] + [f"lay 0 {word}" for word in NO_NUMBERS]
        wrong += [f"lay 0 1 {word}" for word in NO_NUMBERS]
        for line in wrong:
            self.refused(NoText, read_paper, line, line=0)
            self.refused(NoText, read_paper, line + "\nlay 1", line=0)
            self.refused(NoText, read_paper, "lay 0\n" + line, line=1)
            self.refused(NoText, read_paper, "lay 0\nlay 0\nlay 1 7\n" + line + "\nand more", line=3)

    def test_a_line_end_too_many(self):
        self.refused(NoText, read_paper, "lay 0\n", line=1)
        self.refused(NoText, read_paper, "\nlay 0", line=0)
        self.refused(NoText, read_paper, "lay 0\n\nlay 1", line=1)

    def test_long_texts(self):
        text = "\n".join(["lay 0 1"] * 1200)
        self.assertEqual(read_paper(text), [(0, (1,))] * 1200)
        self.refused(NoText, read_paper, text + "\nlay", line=1200)

    def test_texts_with_something_otherwise(self):
        dice = random.Random(14)
        read = 0
        for shape, order in random.Random(2).sample(list(samples.ordered()), 60):
            for _ in range(40):
                read += self.looked_at(changed(show_paper(plain_paper(shape, order)), dice))
        self.assertGreater(read, 100)


if __name__ == "__main__":
    unittest.main()
