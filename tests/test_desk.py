"""Points 2, 23 and 26: a desk that keeps shapes by names."""

import random
import re
import unittest

import samples
from checks import Checks
from samples import FIGURES_30, FIGURES_31, NOTHINGS
from textsamples import NO_NUMBERS
from wholesides.bars import bars
from wholesides.bartexts import read_bar
from wholesides.closed import rim
from wholesides.counts import brought_counts, face_counts
from wholesides.desk import Desk
from wholesides.errors import (
    NoCorner, NoFace, NoName, NoPiece, NoRow, NoShape, NoWish, SideError, TooMany)
from wholesides.makes import join, link, sides
from wholesides.papers import paper_of
from wholesides.texts import show_paper, show_shape
from wholesides.wishes import NO_WISH, is_wish

NUMBER = r"(?:0|-?[1-9][0-9]{0,29})"
WORD = r"([^ \n]+)"
WISH = rf"(?: from((?: {NUMBER})+))?(?: to((?: {NUMBER})+))?"
# What each row is like, written as one pattern.
ROWS = {
    "piece": rf"piece {WORD}((?: {NUMBER})+)",
    "take": rf"take {WORD} ({NUMBER})",
    "link": rf"link {WORD} {WORD}((?: {NUMBER})*)",
    "sides": rf"sides {WORD} {WORD}",
    "rim": rf"rim {WORD} {WORD}",
    "join": rf"join {WORD} {WORD} {WORD}",
    "names": "names",
    **{word: rf"{word} {WORD}" for word in ("show", "counts", "brought", "parts", "closed")},
    **{word: rf"{word} {WORD}{WISH}" for word in ("order", "many", "paper", "why")},
}
# How many names a row has, where it isn't one; behind which words the first one may be new.
NAMED = {"sides": 2, "rim": 2, "link": 2, "join": 3, "names": 0}
MAKING = ("piece", "link", "sides", "rim", "join")


def numbers_of(text):
    return [int(word) for word in (text or "").split()]


def shown(numbers):
    return " ".join(map(str, numbers))


class PlainDesk:
    """A desk that keeps plain lists of pieces, and reads its rows by patterns."""

    def __init__(self):
        self.lists = {}

    def say(self, row):
        if type(row) is not str:
            raise NoRow("no text")
        word = row.split(" ")[0]
        found = re.fullmatch(ROWS[word], row) if word in ROWS else None
        if found is None:
            raise NoRow("no row")
        told = list(found.groups())
        many = NAMED.get(word, 1)
        names, rest = told[:many], told[many:]
        for at, name in enumerate(names):
            if not re.fullmatch("[a-z]{1,8}", name):
                raise NoName("no name")
            if name not in self.lists and not (at == 0 and word in MAKING):
                raise NoName("nothing stands")
        return getattr(self, "say_" + word)(names, *rest)

    def shape(self, name):
        return tuple(self.lists[name])

    def say_piece(self, names, told):
        piece = tuple(sorted(numbers_of(told)))
        standing = self.lists.get(names[0], [])
        if len(piece) > 6 or len(set(piece)) < len(piece) or piece in standing:
            raise NoPiece("no piece")
        if standing and len(standing[0]) != len(piece):
            raise NoPiece("another size")
        if len(standing) == 40:
            raise TooMany("forty")
        self.lists[names[0]] = standing + [piece]
        return str(len(standing))

    def say_take(self, names, told):
        k, standing = int(told), self.lists[names[0]]
        if not 0 <= k < len(standing):
            raise NoPiece("no number")
        self.lists[names[0]] = standing[:k] + standing[k + 1:]
        if len(standing) == 1:
            del self.lists[names[0]]
        return "ok"

    def say_show(self, names):
        return show_shape(self.shape(names[0]))

    def say_counts(self, names):
        return shown(face_counts(self.shape(names[0])))

    def say_brought(self, names):
        return shown(brought_counts(self.shape(names[0])))

    def say_parts(self, names):
        return "\n".join(shown(found) for found in samples.plain_parts(self.shape(names[0])))

    def say_closed(self, names):
        return "yes" if samples.plain_closed(self.shape(names[0])) else "no"

    def wished(self, names, beginning, end):
        shape, wish = self.shape(names[0]), (tuple(numbers_of(beginning)), tuple(numbers_of(end)))
        if not is_wish(shape, wish):
            raise NoWish("no wish")
        if len(shape) > 12:
            raise TooMany("no tries")
        return shape, wish

    def say_order(self, names, beginning, end):
        order = samples.first_by_masks(*self.wished(names, beginning, end))
        return "none" if order is None else shown(order)

    def say_many(self, names, beginning, end):
        return str(samples.ways_by_masks(*self.wished(names, beginning, end))(0))

    def say_paper(self, names, beginning, end):
        shape, wish = self.wished(names, beginning, end)
        order = samples.first_by_masks(shape, wish)
        return "none" if order is None else show_paper(paper_of(shape, order))

    def say_why(self, names, beginning, end):
        """Whether a text is a right answer."""
        shape, wish = self.wished(names, beginning, end)
        if samples.first_by_masks(shape, wish) is not None:
            return "none"
        return lambda text: text != "none" and bars(shape, wish, read_bar(text))

    def put(self, name, shape):
        self.lists[name] = list(shape)
        return "ok"

    def say_link(self, names, told):
        face = tuple(sorted(numbers_of(told)))
        if len(face) > 6 or len(set(face)) < len(face):
            raise NoFace("no face")
        return self.put(names[0], link(self.shape(names[1]), face))

    def say_sides(self, names):
        return self.put(names[0], sides(self.shape(names[1])))

    def say_rim(self, names):
        shape = rim(self.shape(names[1]))
        return "none" if shape is None else self.put(names[0], shape)

    def say_join(self, names):
        return self.put(names[0], join(self.shape(names[1]), self.shape(names[2])))

    def say_names(self, names):
        return shown(sorted(self.lists)) or "none"


class Desks(Checks):
    def setUp(self):
        self.desk, self.plain_desk = Desk(), PlainDesk()

    def said(self, row):
        """The answer, which is the plain desk's too; None where both refuse alike, and nothing changes."""
        try:
            right = self.plain_desk.say(row)
        except SideError as error:
            self.refused(type(error), self.desk.say, row)
            self.stands()
            return None
        text = self.desk.say(row)
        self.assertIs(type(text), str)
        if callable(right):
            self.assertTrue(right(text), (row, text))
        else:
            self.assertEqual(text, right, row)
        return text

    def stands(self):
        """What stands by each name is what stands at the plain desk."""
        lists = self.plain_desk.lists
        self.assertEqual(self.desk.say("names"), " ".join(sorted(lists)) or "none")
        for name in lists:
            self.assertEqual(self.desk.say(f"show {name}"), show_shape(tuple(lists[name])))

    def says(self, row, text):
        self.assertEqual(self.said(row), text)
        self.stands()

    def refuses(self, error, row):
        self.refused(error, self.desk.say, row)
        self.assertIsNone(self.said(row))

    def keep(self, name, shape):
        for number, piece in enumerate(shape):
            self.assertEqual(self.said(f"piece {name} " + shown(piece)), str(number))


class RowsTest(Desks):
    def test_pieces(self):
        self.says("names", "none")
        self.says("piece a 2 0 1", "0")
        self.says("show a", "piece 0 1 2")
        self.says("piece a 4 2 3", "1")
        self.says("piece b -5", "0")
        self.says("piece a 3 2 1", "2")
        self.says("names", "a b")
        self.says("show a", "piece 0 1 2\npiece 2 3 4\npiece 1 2 3")
        self.says(f"piece far {FIGURES_30} -{FIGURES_30} 0", "0")
        self.says("show far", f"piece -{FIGURES_30} 0 {FIGURES_30}")
        for row in ("piece a 0 1 2", "piece a 2 1 0", "piece a 5 5 6", "piece a 1", "piece a 1 2", "piece a 1 2 3 4",
                    "piece b -5", "piece b 1 1", "piece a 1 2 3 4 5 6 7", "piece new 1 1", "piece new 1 2 3 4 5 6 7",
                    "piece new" + " 0" * 300, "piece new 1 2 3 4 5 6 1"):
            self.refuses(NoPiece, row)

    def test_forty_pieces(self):
        for name, shape in (("dots", samples.FORTY_DOTS), ("sixes", samples.FORTY_SIXES)):
            self.keep(name, shape)
            more = shown(range(900, 900 + len(shape[0])))
            self.refuses(TooMany, f"piece {name} {more}")
            self.refuses(NoPiece, f"piece {name} {more} 1000")
            self.refuses(NoPiece, f"piece {name} {shown(shape[3])}")
            for word in ("order", "many", "paper", "why"):
                self.refuses(TooMany, f"{word} {name}")
                self.refuses(TooMany, f"{word} {name} from 39 to 0")
                self.refuses(NoWish, f"{word} {name} from 40")
                self.refuses(NoWish, f"{word} {name} from 1 to 1")
            for word in ("counts", "brought", "parts", "closed", "show"):
                self.said(f"{word} {name}")
            self.says(f"take {name} 39", "ok")
            self.says(f"piece {name} {more}", "39")

    def test_take(self):
        self.keep("a", samples.FAN)
        for k in ("-1", "3", "-3", str(FIGURES_30), str(-FIGURES_30)):
            self.refuses(NoPiece, f"take a {k}")
        self.says("take a 1", "ok")
        self.says("show a", "piece 0 1 2\npiece 1 2 3")
        self.says("take a 1", "ok")
        self.says("names", "a")
        self.says("take a 0", "ok")
        self.says("names", "none")
        self.refuses(NoName, "take a 0")
        self.refuses(NoName, "show a")
        self.says("piece a 7", "0")

    def test_what_a_shape_is_like(self):
        self.keep("fan", samples.FAN)
        self.says("counts fan", "1 5 7 3")
        self.says("brought fan", "1 2 0 0")
        self.says("parts fan", "0 1 2")
        self.says("closed fan", "no")
        self.keep("ring", samples.RING)
        self.says("closed ring", "yes")
        self.keep("bow", samples.BOW)
        self.says("parts bow", "0\n1")
        self.keep("band", samples.BAND)
        self.says("brought band", "1 2 3 -1")
        self.keep("rings", samples.TWO_RINGS)
        self.says("parts rings", "0 1 2\n3 4 5")

    def test_orders(self):
        self.keep("fan", samples.FAN)
        self.says("order fan", "0 2 1")
        self.says("order fan from 1", "1 2 0")
        self.says("order fan to 0", "1 2 0")
        self.says("order fan from 2 1", "2 1 0")
        self.says("order fan from 2 to 0", "2 1 0")
        self.says("order fan to 2", "none")
        self.says("order fan from 0 1", "none")
        self.says("many fan", "4")
        self.says("many fan from 2", "2")
        self.says("many fan to 2", "0")
        self.says("paper fan", "lay 0\nlay 2 3\nlay 1 4")
        self.says("paper fan from 1", "lay 1\nlay 2 1\nlay 0 0")
        self.says("paper fan to 2", "none")
        self.says("why fan", "none")
        self.says("why fan from 0 to 1", "none")
        self.assertTrue(bars(samples.FAN, ((), (2,)), read_bar(self.said("why fan to 2"))))
        self.assertTrue(bars(samples.FAN, ((0, 1), ()), read_bar(self.said("why fan from 0 1"))))
        self.keep("bow", samples.BOW)
        self.says("order bow", "none")
        self.says("many bow", "0")
        self.assertTrue(bars(samples.BOW, NO_WISH, read_bar(self.said("why bow"))))

    def test_whole_wishes(self):
        self.keep("ring", samples.RING)
        self.says("order ring from 2 1 to 3 0", "2 1 3 0")
        self.says("order ring from 2 1 3 0", "2 1 3 0")
        self.says("order ring to 2 1 3 0", "2 1 3 0")
        self.says("order ring from 0 2 to 1 3", "none")
        self.says("many ring from 2 1 to 3 0", "1")

    def test_why_of_barred_shapes(self):
        for at, shape in enumerate(samples.BARRED + [samples.TWELVE_ROW, samples.CAPPED]):
            name = "s" + "abcdefghijklmnopqrst"[at]
            self.keep(name, shape)
            for word in ("why", "order", "many", "paper"):
                for wish in ("", " from 0", " to 0", " from 1 to 0"):
                    self.said(f"{word} {name}{wish}")

    def test_no_wish(self):
        self.keep("fan", samples.FAN)
        for word in ("order", "many", "paper", "why"):
            for wish in ("from 3", "from -1", "to -1", "to 3", "from 0 0", "to 1 1", "from 0 to 0", "from 0 1 2 0",
                         f"from {FIGURES_30}", f"to -{FIGURES_30}", "from 0 1 to 2 1"):
                self.refuses(NoWish, f"{word} fan {wish}")

    def test_no_wish_ahead_of_too_many(self):
        self.keep("row", samples.FORTY_ROW[:13])
        for word in ("order", "many", "paper", "why"):
            self.refuses(TooMany, f"{word} row")
            self.refuses(TooMany, f"{word} row from 12")
            self.refuses(NoWish, f"{word} row from 13")

    def test_names_as_long_as_may_be(self):
        for name in ("a", "z", "abcdefgh", "zzzzzzzz", *ROWS, "from", "to", "none", "ok"):
            self.says(f"piece {name} 1 2", "0")
            self.says(f"order {name} from 0", "0")
            self.says(f"order {name} to 0", "0")
            self.says(f"many {name}", "1")
            self.says(f"why {name}", "none")
        for name in ("abcdefghi", "A", "aB", "a1", "1", "-1", "0", "a-b", "_", "a_", "piece1", "a.", "~", "z" * 300):
            self.refuses(NoName, f"piece {name} 1 2")
            self.refuses(NoName, f"show {name}")
            self.refuses(NoName, f"link {name} a 1")
            self.refuses(NoName, f"rim new {name}")
        self.says("names", " ".join(sorted(self.plain_desk.lists)))

    def test_rising_names(self):
        for name in ("b", "ab", "a", "ba", "z", "aa"):
            self.says(f"piece {name} 1", "0")
        self.says("names", "a aa ab b ba z")


class MakesTest(Desks):
    def test_by_new_names(self):
        self.keep("fan", samples.FAN)
        self.says("link l fan 2", "ok")
        self.says("show l", "piece 0 1\npiece 3 4\npiece 1 3")
        self.says("link l fan 2 1", "ok")
        self.says("show l", "piece 0\npiece 3")
        self.says("link whole fan", "ok")
        self.says("show whole", show_shape(samples.FAN))
        self.says("sides s fan", "ok")
        self.says("show s", show_shape(sides(samples.FAN)))
        self.says("rim r fan", "ok")
        self.says("show r", show_shape(rim(samples.FAN)))
        self.says("piece dot 50", "0")
        self.says("join j fan dot", "ok")
        self.says("show j", "piece 0 1 2 50\npiece 2 3 4 50\npiece 1 2 3 50")
        self.says("join j dot l", "ok")
        self.says("show j", "piece 0 50\npiece 3 50")
        self.says("names", "dot fan j l r s whole")
        self.says("show fan", show_shape(samples.FAN))

    def test_in_the_place_of_the_one_it_is_made_of(self):
        self.keep("fan", samples.FAN)
        self.says("link fan fan 2", "ok")
        self.says("show fan", "piece 0 1\npiece 3 4\npiece 1 3")
        self.says("sides fan fan", "ok")
        self.says("show fan", "piece 1\npiece 0\npiece 4\npiece 3")
        self.keep("two", samples.TWO)
        self.says("rim two two", "ok")
        self.says("show two", show_shape(rim(samples.TWO)))
        self.says("rim two two", "none")
        self.says("show two", show_shape(rim(samples.TWO)))
        self.says("piece dot 50", "0")
        self.says("join dot two dot", "ok")
        self.says("show dot", "piece 0 2 50\npiece 0 1 50\npiece 2 3 50\npiece 1 3 50")
        self.says("piece a 100", "0")
        self.says("join two two a", "ok")
        self.says("show two", "piece 0 2 100\npiece 0 1 100\npiece 2 3 100\npiece 1 3 100")

    def test_what_is_made_stands_alone(self):
        self.keep("a", samples.FAN)
        self.says("link b a", "ok")
        self.says("take b 0", "ok")
        self.says("show a", show_shape(samples.FAN))
        self.says("piece b 7 8 9", "2")
        self.says("piece a 9 8 7", "3")
        self.says("take a 0", "ok")
        self.says("show b", "piece 2 3 4\npiece 1 2 3\npiece 7 8 9")

    def test_no_rim_changes_nothing(self):
        self.keep("ring", samples.RING)
        self.says("rim new ring", "none")
        self.says("names", "ring")
        self.keep("fan", samples.FAN)
        self.says("rim fan ring", "none")
        self.says("show fan", show_shape(samples.FAN))

    def test_refused(self):
        self.keep("fan", samples.FAN)
        self.keep("dots", samples.DOTS)
        self.keep("forty", samples.FORTY_DOTS)
        self.keep("apart", samples.FORTY_SIX_APART)
        for face in ("0 1 2", "5", "0 3", "2 2", "1 1 1", "2 1 2", "0 1 2 3 4 5 6", "9 9 9 9 9 9 9", "0 1 2 3", "-1",
                     "1" + " 1" * 300, "2 1 2 1 2 1 2", str(FIGURES_30)):
            self.refuses(NoFace, f"link new fan {face}")
            self.refuses(NoFace, f"link fan fan {face}")
        self.refuses(NoFace, "link new dots 3")
        for row in ("sides new dots", "rim new dots", "sides fan dots", "rim forty forty"):
            self.refuses(NoShape, row)
        for row in ("sides new apart", "rim new apart", "sides fan apart"):
            self.refuses(TooMany, row)
        for row in ("join new fan fan", "join fan dots fan", "join new fan apart", "join new dots forty"):
            self.refuses(NoCorner, row)
        self.keep("far", ((1000,), (2000,)))
        for row in ("join new far forty", "join fan forty far", "join new apart far"):
            self.refuses(TooMany, row)
        self.says("names", "apart dots fan far forty")

    def test_corners_in_any_order(self):
        self.keep("s", samples.SEVEN_RIM)
        self.says("link a s 3 0 2", "ok")
        self.says("link b s 0 2 3", "ok")
        self.assertEqual(self.desk.say("show a"), self.desk.say("show b"))
        self.assertEqual(self.desk.say("show a"), show_shape(link(samples.SEVEN_RIM, (0, 2, 3))))


class RefusalTest(Desks):
    def setUp(self):
        Desks.setUp(self)
        self.keep("a", samples.FAN)
        self.keep("b", ((70,),))

    def test_what_is_no_text(self):
        for thing in NOTHINGS + [0, 1, ["names"], ("names",), {"names": 1}, ["show a"]]:
            if type(thing) is not str:
                self.refuses(NoRow, thing)

    def test_what_is_no_row(self):
        rows = ["", " ", "  ", "\n", "a", "NAMES", "Names", "name", "pieces a 1", "show", "counts", "brought", "parts",
                "closed", "piece", "piece a", "take", "take a", "take a 0 1", "show a b", "counts a 1", "brought a a",
                "parts a 0", "closed a b", "names a", "names names", "link", "link c", "sides", "sides c", "sides c a b",
                "rim", "rim c", "rim c a 1", "join", "join c", "join c a", "join c a b a", "order", "many", "paper", "why",
                "link c a b", "piece a b", "piece a 1 b", "take a b", "say names", "laid a", "even 0", "from", "to", "by"]
        rows += [row + " 1" for row in ("take a 0", "show a", "counts a", "brought a", "parts a", "closed a", "order a", "many a",
                                        "paper a", "why a", "sides c a", "rim c a", "join c a b", "names")]
        for word in ("order", "many", "paper", "why"):
            rows += [f"{word} a {rest}" for rest in (
                "from", "to", "0", "a", "by 0", "from to", "from to 0", "from 0 to", "to 0 from", "to 0 from 1", "from 0 from 1",
                "to 0 to 1", "from 0 to 1 to 2", "from 0 to 1 from 2", "from from 0", "to to 0", "From 0", "0 from 1",
                "until 0", "from 0 and 1", "to from 0", "from 0 TO 1", "frm 0", "from 0, 1")]
        for row in rows:
            self.refuses(NoRow, row)

    def test_blanks_and_line_ends(self):
        rows = ["piece a 7 8 9", "take a 0", "show a", "counts a", "closed a", "order a from 0 to 1", "many a", "paper a to 0",
                "why a", "link c a 1 2", "sides c a", "rim c a", "join c a b", "names"]
        for row in rows:
            places = [at for at, sign in enumerate(row) if sign == " "]
            for wrong in (" " + row, row + " ", row + "\n", "\n" + row, row + "\nnames", row + "  "):
                self.refuses(NoRow, wrong)
            for at in places:
                self.refuses(NoRow, row[:at] + " " + row[at:])
                self.refuses(NoRow, row[:at] + "\n" + row[at:])
                self.refuses(NoRow, row[:at] + "\n" + row[at + 1:])

    def test_a_blank_in_the_place_of_a_name(self):
        for row in ("show ", "counts ", "piece  1", "take  0", "order ", "order  from 0", "many  to 1", "why ", "link  a",
                    "link c ", "link  a 1", "link c  1", "sides  a", "sides c ", "rim  a", "rim c ", "join  a b", "join c  b",
                    "join c a ", "names ", " names"):
            self.refuses(NoRow, row)

    def test_numbers_written_otherwise(self):
        for word in NO_NUMBERS:
            if word not in ("from", "to"):
                for row in ("piece a {} 1", "piece a 0 {}", "piece new {}", "take a {}", "link c a {}", "link c a 1 {}",
                            "order a from {}", "many a to {}", "paper a from 0 {}", "why a from 0 to 1 {}"):
                    self.refuses(NoRow, row.format(word))
        self.refuses(NoRow, f"piece a {FIGURES_31} 0 1")
        self.refuses(NoRow, f"take a {-FIGURES_31}")
        self.refuses(NoPiece, f"take a {-FIGURES_30}")

    def test_no_name(self):
        for name in ("c", "A", "a1", "abcdefghi", "-", "1"):
            for row in ("take {} 0", "show {}", "counts {}", "brought {}", "parts {}", "closed {}", "order {}", "many {}",
                        "paper {}", "why {}", "order {} from 0", "why {} to 0", "link new {}", "link new {} 1", "sides new {}",
                        "rim new {}", "join new {} a", "join new a {}", "join new {} {}"):
                self.refuses(NoName, row.format(name, name))
        for name in ("A", "a1", "abcdefghi", "-", "1", "a_"):
            for row in ("piece {} 1 2 3", "link {} a 1", "sides {} a", "rim {} a", "join {} a b"):
                self.refuses(NoName, row.format(name))

    def test_two_at_once(self):
        # No row ahead of no name, and no name ahead of all beneath.
        for row in ("piece A", "piece A x", "piece A 01", "take c", "take c x", "take A 0 1", "show c c", "show  c", "show c ",
                    "show c\n", "order c from", "order c x", "order A to", "link A", "link A c x", "link A c 01", "sides A",
                    "sides A c c", "rim A", "join A c", "join A c c c", "why c from 0 to", "names c"):
            self.refuses(NoRow, row)
        for row in ("piece A 1 1", "piece A 1 2 3 4 5 6 7", "take c -1", "take A 99", "order c from 0 0", "order c from 99",
                    "many c from -1", "why A to -5", "link A a 99", "link new c 1 1", "link A a 1 1", "sides A b", "rim A b",
                    "sides new c", "join A a a", "join A c c", "join new c a"):
            self.refuses(NoName, row)
        self.refuses(NoPiece, "piece b 1 1")
        self.refuses(NoWish, "order a from 0 0 to 99")

    def test_a_new_name_of_a_refused_piece_stays_free(self):
        self.refuses(NoPiece, "piece new 1 1")
        self.refuses(NoName, "show new")
        self.says("names", "a b")
        self.says("piece new 1", "0")


class WalkTest(Desks):
    NAMES = ["a", "b", "c", "join", "A", "toolonger"]

    def a_row(self, dice):
        """A row at random; most of them are rows."""
        def name():
            return dice.choice(self.NAMES[:4] if dice.random() < 0.93 else self.NAMES)

        def numbers(least, most, low=-1, high=6):
            many = dice.randint(least, most)
            return "".join(f" {dice.randint(low, high)}" for _ in range(many))

        def piece():
            return " " + shown(dice.sample(range(6), dice.choice([3, 3, 3, 2, 1])))

        def wish():
            both = dice.choice(["", "", " from" + numbers(1, 2, 0, 3), " to" + numbers(1, 2, 0, 3)])
            return both + (" to" + numbers(1, 1, 0, 5) if "from" in both and dice.random() < 0.4 else "")

        word = dice.choice(list(ROWS) + ["piece"] * 16 + ["take"])
        if word == "piece":
            return f"piece {name()}" + (piece() if dice.random() < 0.9 else numbers(1, 4))
        if word == "take":
            return f"take {name()}" + numbers(1, 1, -1, 4)
        if word == "link":
            return f"link {name()} {name()}" + numbers(0, 2, 0, 5)
        if word == "join":
            return f"join {name()} {name()} {name()}"
        if word in ("order", "many", "paper", "why"):
            return f"{word} {name()}" + wish()
        return " ".join([word] + [name() for _ in range(NAMED.get(word, 1))])

    def test_walks(self):
        answered = refused = 0
        for seed in range(25):
            self.setUp()
            dice = random.Random(seed)
            for _ in range(120):
                row = self.a_row(dice)
                if dice.random() < 0.08:
                    at = dice.randint(0, len(row))
                    row = row[:at] + dice.choice([" ", "\n", "-", "0", "x", "X"]) + row[at + dice.randint(0, 1):]
                answer = self.said(row)
                self.stands()
                answered += answer is not None
                refused += answer is None
        self.assertGreater(answered, 1000)
        self.assertGreater(refused, 300)

    def test_two_beside_each_other(self):
        one, other = Desk(), Desk()
        one.say("piece a 1 2")
        self.assertEqual((one.say("names"), other.say("names")), ("a", "none"))
        other.say("piece a 3")
        self.assertEqual((one.say("show a"), other.say("show a")), ("piece 1 2", "piece 3"))
        one.say("take a 0")
        self.assertEqual((one.say("names"), other.say("names")), ("none", "a"))


if __name__ == "__main__":
    unittest.main()
