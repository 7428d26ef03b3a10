"""What the tests ask of every answer and of every refusal."""

import copy
import unittest


def spoil(thing):
    """Changes each list and dict within a thing, as an asker may do with what is its own."""
    if type(thing) is dict:
        inner = list(thing.values())
        thing["more"] = "more"
    else:
        inner = list(thing) if type(thing) in (list, tuple) else []
    for part in inner:
        spoil(part)
    if type(thing) is list:
        thing.reverse()
        thing.append("more")


class Checks(unittest.TestCase):
    def same(self, one, other):
        """Alike, and of the same kinds: 1 isn't True here."""
        self.assertEqual(repr(one), repr(other))

    def plain(self, thing):
        """Of the kinds that are told, none of a kind of its own."""
        self.assertIn(type(thing), (type(None), bool, int, str, tuple, list, dict))
        if type(thing) in (tuple, list):
            for part in thing:
                self.plain(part)
        if type(thing) is dict:
            for key, worth in thing.items():
                self.plain(key)
                self.plain(worth)

    def refused(self, error, ask, *things, **fields):
        """Refused with this very class and these fields; what is handed in stays."""
        handed = copy.deepcopy(things)
        with self.assertRaises(error) as caught:
            ask(*things)
        self.assertIs(type(caught.exception), error)
        for field, worth in fields.items():
            self.same(getattr(caught.exception, field), worth)
        self.same(things, handed)

    def told(self, ask, *things):
        """What is told: plain, the asker's own, and what is handed in stays and is not held on to."""
        handed = copy.deepcopy(things)
        answer = ask(*things)
        self.same(things, handed)
        self.plain(answer)
        kept = copy.deepcopy(answer)
        spoil(answer)
        self.same(things, handed)
        again = ask(*handed)
        self.same(again, kept)
        spoil(handed)
        self.same(again, kept)
        return kept
