"""The rows of a desk: how they are written, and which names may stand in them."""

from wholesides.errors import NoName, NoRow
from wholesides.words import numbers_in

MOST_LETTERS = 8
LETTERS = "abcdefghijklmnopqrstuvwxyz"

# Behind each word: how many names, then how many numbers at least and at most; None where there may be any number.
ROWS = {
    "piece": (1, 1, None), "take": (1, 1, 1), "show": (1, 0, 0), "counts": (1, 0, 0), "brought": (1, 0, 0),
    "parts": (1, 0, 0), "closed": (1, 0, 0), "link": (2, 0, None), "sides": (2, 0, 0), "rim": (2, 0, 0),
    "join": (3, 0, 0), "names": (0, 0, 0)}

# Behind these words there is a name, then perhaps a wish.
WISHED = ("order", "many", "paper", "why")

# Behind these words the first name is one by which nothing needs to stand.
MAKERS = ("piece", "link", "sides", "rim", "join")


def words_in(row):
    """The list of a row's words, parted by one blank each; NoRow."""
    if not isinstance(row, str) or "\n" in row:
        raise NoRow("a row is a text without line ends")
    words = row.split(" ")
    if "" in words:
        raise NoRow("there is a blank too many")
    return words


def numbers_behind(word, words):
    """The tuple of the numbers behind this first word, one at least; the empty one of no words; NoRow."""
    if not words:
        return ()
    numbers = tuple(numbers_in(words[1:]))
    if words[0] != word or not numbers or None in numbers:
        raise NoRow("there are no numbers behind from or to")
    return numbers


def wish_in(words):
    """The wish that words write, the one without beginning and end where there are none; NoRow."""
    at = words.index("to") if "to" in words else len(words)
    return (numbers_behind("from", words[:at]), numbers_behind("to", words[at:]))


def wished_row(word, words):
    """The word, the list of the name, and the wish behind it; NoRow."""
    if not words:
        raise NoRow("a name lacks")
    return (word, words[:1], wish_in(words[1:]))


def read_row(row):
    """A tuple of a row's word, the list of its names, and its numbers, or its wish; NoRow, of anything else."""
    word, *rest = words_in(row)
    if word in WISHED:
        return wished_row(word, rest)
    if word not in ROWS:
        raise NoRow("there is no such word")
    many, least, most = ROWS[word]
    names, numbers = rest[:many], numbers_in(rest[many:])
    if len(names) < many or len(numbers) < least or None in numbers:
        raise NoRow("a word lacks, or is no number")
    if most is not None and len(numbers) > most:
        raise NoRow("there are too many words")
    return (word, names, numbers)


def is_name(word):
    """Whether a word is one of one to eight small letters."""
    return 1 <= len(word) <= MOST_LETTERS and all(letter in LETTERS for letter in word)


def check_names(standing, word, names):
    """NoName of what is no name, and of one by which nothing stands, but where it needn't."""
    for place, name in enumerate(names):
        may_be_new = place == 0 and word in MAKERS
        if not is_name(name):
            raise NoName("this is no name")
        if not may_be_new and name not in standing:
            raise NoName("nothing stands by this name")
