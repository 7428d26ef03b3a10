"""Points 2, 14, 15 and 23: bars as texts."""

import random
import unittest

import barsamples
import samples
from checks import Checks
from samples import FIGURES_30
from textsamples import NO_NUMBERS, NO_TEXTS, changed, plain_number, rising_face
from wholesides.bars import bars
from wholesides.bartexts import read_bar, show_bar
from wholesides.errors import NoText
from wholesides.wishes import NO_WISH

# Texts of bars without links, each with its bar.
PLAIN = [
    ("apart 0", ("apart", [0])),
    ("apart 0 2 11", ("apart", [0, 2, 11])),
    ("apart " + "9" * 30, ("apart", [FIGURES_30])),
    ("counts 3", ("counts", 3)),
    ("counts 0", ("counts", 0)),
    ("counts " + "9" * 30, ("counts", FIGURES_30)),
    ("unlike 0", ("unlike", 0)),
    ("unlike 12", ("unlike", 12)),
    ("even 0 1", ("evens", [[0, 1]])),
    ("even 3", ("evens", [[3]])),
    ("even 0 1\neven 0 1\neven 5 7 " + "9" * 30, ("evens", [[0, 1], [0, 1], [5, 7, FIGURES_30]])),
    ("set", ("sets", [((), None)])),
    ("set 4", ("sets", [((4,), None)])),
    ("set 1\nset\nset 0 2", ("sets", [((1,), None), ((), None), ((0, 2), None)])),
    ("set\nset", ("sets", [((), None), ((), None)])),
    ("cut by 0", ("sets", [((), (0, ()))])),
    ("cut 0 1 by 2 -5 3", ("sets", [((0, 1), (2, (-5, 3)))])),
    ("cut 7 by 7", ("sets", [((7,), (7, ()))])),
    ("cut 1 by " + "9" * 30 + " -" + "9" * 30 + " 1 2 3 4 5",
     ("sets", [((1,), (FIGURES_30, (-FIGURES_30, 1, 2, 3, 4, 5)))])),
    ("set\ncut 0 by 1 2\nset 1\ncut by 3 -7 -6", ("sets", [((), None), ((0,), (1, (2,))), ((1,), None), ((), (3, (-7, -6)))])),
]
LINKS = [
    ("link 0", (0,)), ("link -3 0 8", (-3, 0, 8)), ("link 1 2 3 4 5 6", (1, 2, 3, 4, 5, 6)),
    ("link -" + "9" * 30 + " " + "9" * 30, (-FIGURES_30, FIGURES_30)), ("link 0", (0,))]

# Lines that are no lines of a bar, wherever they stand.
WRONG = [
    "", " ", "apart", "apart ", " apart 0", "apart 0 ", "apart  0", "apart 0  1", "apart 1 0", "apart 0 0", "apart -1",
    "apart -1 0", "Apart 0", "aparts 0", "apart 0 by 1",
    "counts", "counts ", "counts 1 2", "counts -1", "counts 1 ", "counts  1", "count 1", "counts ()",
    "unlike", "unlike -1", "unlike 0 1", "unlike  0", "unlikes 0",
    "even", "even ", "even -1", "even 1 0", "even 2 2", "evens 0 1", "even 0  1", "even 0 1 ", "even [0, 1]",
    "link", "link ", "link 2 1", "link 1 1", "link 1 2 3 4 5 6 7", "link  1", "link 1 ", "links 1", "link 0 -1",
    "set ", "set  0", "set 0 ", "set 1 0", "set 0 0", "set -1", "sets 0", "set by 0", "set 0 by 1", "set None",
    "cut", "cut ", "cut 0", "cut by", "cut by ", "cut 0 by", "cut  by 0", "cut by  0", "cut 0 1", "cut 1 0 by 2",
    "cut 1 1 by 2", "cut -1 by 2", "cut 0 by -1", "cut 0 by 1 3 2", "cut 0 by 1 2 2", "cut 0 by 1 1 2 3 4 5 6 7",
    "cut 0 by 1 by 2", "cut by by 1", "cut 0 by by", "cut 0 by 1 ", "cut 0 by 1  2", "cut 0 BY 1", "cuts by 0",
    "by 0", "piece 0", "lay 0", "none", "0", "apart\t0", "set\t0",
]
WRONG += [head + word for word in NO_NUMBERS
          for head in ("apart ", "apart 0 ", "counts ", "unlike ", "even ", "even 0 ", "link ", "link 0 ", "set ", "set 0 ",
                       "cut by ", "cut 0 by ", "cut by 0 ", "cut 0 by 1 2 ")]
WRONG += [f"cut {word} by 0" for word in NO_NUMBERS]


def numbers_of(words):
    return list(map(plain_number, words))


def rising_pieces(numbers):
    return None not in numbers and all(k >= 0 for k in numbers) and numbers == sorted(set(numbers))


def plain_line(line):
    """What a line tells, with its word; None where it is none."""
    word, *rest = line.split(" ")
    numbers = numbers_of(rest)
    if word in ("apart", "even") and numbers and rising_pieces(numbers):
        return word, numbers
    if word in ("counts", "unlike") and len(numbers) == 1 and rising_pieces(numbers):
        return word, numbers[0]
    if word == "link" and numbers and rising_face(tuple(numbers)):
        return word, tuple(numbers)
    if word == "set" and rising_pieces(numbers):
        return "sets", (tuple(numbers), None)
    if word == "cut" and rest.count("by") == 1:
        laid, cut = numbers_of(rest[:rest.index("by")]), numbers_of(rest[rest.index("by") + 1:])
        if rising_pieces(laid) and cut and rising_pieces(cut[:1]) and rising_face(tuple(cut[1:])):
            return "sets", (tuple(laid), (cut[0], tuple(cut[1:])))
    return None


def plain_bar(text):
    """The bar and None, or None and the first wrong line."""
    links, inner = [], []
    lines = text.split("\n")
    for at, line in enumerate(lines):
        row = plain_line(line)
        if row is None or row[0] == "link" and (inner or len(links) == 5):
            return None, at
        if inner and (row[0] not in ("even", "sets") or row[0] != inner[0][0]):
            return None, at
        (links if row[0] == "link" else inner).append(row)
    if not inner:
        return None, len(lines)
    word = inner[0][0]
    bar = (word, inner[0][1])
    if word in ("even", "sets"):
        bar = ({"even": "evens", "sets": "sets"}[word], [told for _, told in inner])
    for _, face in reversed(links):
        bar = ("link", face, bar)
    return bar, None


def in_links(many, text, bar):
    """The text and the bar within so many links."""
    for line, face in LINKS[:many][::-1]:
        text, bar = line + "\n" + text, ("link", face, bar)
    return text, bar


class ShowTest(Checks):
    def test_each_word_within_links(self):
        for many in range(6):
            for text, bar in PLAIN:
                text, bar = in_links(many, text, bar)
                self.same(self.told(show_bar, bar), text)
                self.same(self.told(read_bar, text), bar)
                self.same(plain_bar(text), (bar, None))

    def test_right_bars(self):
        for shape, wish, bar in barsamples.RIGHT:
            text = self.told(show_bar, bar)
            self.same(self.told(read_bar, text), bar)
            self.assertTrue(bars(shape, wish, read_bar(text)))

    def test_by_hand(self):
        self.assertEqual(show_bar(("link", (2,), ("apart", [0]))), "link 2\napart 0")
        rows = [((), None), ((0, 3), (2, (1, 4)))]
        self.assertEqual(show_bar(("link", (2, 3), ("sets", rows))), "link 2 3\nset\ncut 0 3 by 2 1 4")

    def test_many_rows(self):
        shape = tuple((k, k + 1, 50 + k) for k in range(7))
        rows = barsamples.rows_without_cuts(shape, NO_WISH)
        self.assertGreater(len(rows), 7)
        self.same(read_bar(show_bar(("sets", rows))), ("sets", rows))
        rows = [((k,), (k + 1, (k, 10 ** 29 + k))) for k in range(2000)]
        self.same(read_bar(show_bar(("sets", rows))), ("sets", rows))


class ReadTest(Checks):
    def looked_at(self, text):
        """Read as the plain reading says, and shown by that very text again; whether it is read at all."""
        bar, line = plain_bar(text)
        if line is None:
            self.same(read_bar(text), bar)
            self.same(show_bar(bar), text)
        else:
            self.refused(NoText, read_bar, text, line=line)
        return line is None

    def test_what_is_no_text(self):
        for thing in NO_TEXTS:
            self.refused(NoText, read_bar, thing, line=0)

    def test_the_text_without_signs(self):
        self.refused(NoText, read_bar, "", line=0)
        self.refused(NoText, read_bar, "\n", line=0)
        self.refused(NoText, read_bar, "\napart 0", line=0)

    def test_lines_that_are_none(self):
        for line in WRONG:
            self.refused(NoText, read_bar, line, line=0)
            self.refused(NoText, read_bar, line + "\napart 0", line=0)
            for ahead in ("link 1", "even 0 1", "set", "cut by 0", "link 1\nlink 2", "link 0\neven 3", "set\ncut by 0"):
                self.refused(NoText, read_bar, ahead + "\n" + line, line=1 + ahead.count("\n"))
                self.refused(NoText, read_bar, ahead + "\n" + line + "\nno line", line=1 + ahead.count("\n"))

    def test_any_line_behind_apart_counts_unlike(self):
        for first in ("apart 0", "counts 1", "unlike 2"):
            for line in ("apart 0", "counts 1", "unlike 2", "even 0 1", "set", "cut by 0", "link 1", "", "x"):
                for many in range(5):
                    text, _ = in_links(many, first + "\n" + line, None)
                    self.refused(NoText, read_bar, text, line=many + 1)
                    self.refused(NoText, read_bar, text + "\nset", line=many + 1)

    def test_another_word_than_even_behind_even(self):
        for line in ("apart 0", "counts 1", "unlike 2", "set", "cut by 0", "link 1", ""):
            self.refused(NoText, read_bar, "even 0 1\n" + line, line=1)
            self.refused(NoText, read_bar, "link 5\neven 0 1\neven 1 2\n" + line + "\neven 3", line=3)

    def test_another_word_than_set_and_cut_behind_these(self):
        for line in ("apart 0", "counts 1", "unlike 2", "even 0 1", "link 1", ""):
            for ahead in ("set", "cut by 0", "set\ncut 1 by 0", "cut 1 by 0\nset"):
                self.refused(NoText, read_bar, ahead + "\n" + line, line=1 + ahead.count("\n"))
                self.refused(NoText, read_bar, "link 3\n" + ahead + "\n" + line, line=2 + ahead.count("\n"))

    def test_a_sixth_link(self):
        five = "\n".join(line for line, _ in LINKS)
        self.refused(NoText, read_bar, five + "\nlink 1\napart 0", line=5)
        self.refused(NoText, read_bar, five + "\nlink 1", line=5)
        self.refused(NoText, read_bar, five + "\nlink 1\nlink 2\nlink 3", line=5)
        self.refused(NoText, read_bar, "link 1\nlink 2\nlink 3\nset\nlink 4", line=4)

    def test_links_without_an_inner_bar(self):
        for many in range(1, 6):
            text = "\n".join(line for line, _ in LINKS[:many])
            self.refused(NoText, read_bar, text, line=many)
            self.refused(NoText, read_bar, text + "\n", line=many)

    def test_a_line_end_too_many(self):
        for text, bar in PLAIN:
            self.refused(NoText, read_bar, text + "\n", line=text.count("\n") + 1)

    def test_two_lines(self):
        lines = [text for text, _ in PLAIN if "\n" not in text] + [line for line, _ in LINKS] + WRONG[:20]
        for one in lines:
            for other in lines:
                self.looked_at(one + "\n" + other)

    def test_lines_at_random(self):
        dice = random.Random(21)
        lines = ["apart 0", "counts 1", "unlike 2", "even 0 1", "even 4", "set", "set 1 2", "cut by 0", "cut 2 by 1 -4 5",
                 "link 1", "link -1 3", "link 7", "link 8 9"]
        read = 0
        for _ in range(6000):
            some = dice.sample(lines, dice.randint(2, 5))
            text = "\n".join(dice.choice(some) for _ in range(dice.randint(1, 4)))
            if dice.random() < 0.5:
                text = "\n".join(dice.choice(lines[9:]) for _ in range(dice.randint(1, 6))) + "\n" + text
            read += self.looked_at(text)
        self.assertGreater(read, 500)

    def test_texts_with_something_otherwise(self):
        dice = random.Random(22)
        read = 0
        for many in range(6):
            for text, bar in PLAIN:
                text, _ = in_links(many, text, bar)
                for _ in range(40):
                    read += self.looked_at(changed(text, dice))
        self.assertGreater(read, 300)

    def test_long_texts(self):
        self.refused(NoText, read_bar, "~" * 10000, line=0)
        self.refused(NoText, read_bar, "link 1\n" * 1400 + "apart 0", line=5)
        self.same(read_bar("set\n" * 2000 + "set"), ("sets", [((), None)] * 2001))
        self.same(read_bar("\n".join(["even 0"] * 1400)), ("evens", [[0]] * 1400))
        numbers = list(range(2000))
        self.same(read_bar("apart " + " ".join(map(str, numbers))), ("apart", numbers))


if __name__ == "__main__":
    unittest.main()
