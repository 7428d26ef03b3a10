"""Whole numbers, lines and words, as texts write them."""

from wholesides.errors import NoText
from wholesides.faces import is_face
from wholesides.wholes import is_whole

MOST_FIGURES = 30


def number_in(word):
    """The whole number that a word writes, None where it writes none."""
    figures = word[1:] if word.startswith("-") else word
    if not figures.isascii() or not figures.isdigit() or len(figures) > MOST_FIGURES:
        return None
    number = int(word)
    # One number has one writing, without noughts ahead and without a minus at 0.
    return number if str(number) == word else None


def numbers_in(words):
    """The list of the whole numbers that the words write, with None for each that writes none."""
    return [number_in(word) for word in words]


def is_from_0(thing):
    """Whether anything at all is a whole number from 0 on."""
    return is_whole(thing) and thing >= 0


def placed_in(words):
    """A tuple of a piece's number and a face, as words write them, None where they write none."""
    if not words:
        return None
    k, *rest = numbers_in(words)
    face = tuple(rest)
    return (k, face) if is_from_0(k) and is_face(face) else None


def lines_in(text):
    """The list of a text's lines, each a list of words parted by one blank; NoText of what is no text."""
    if not isinstance(text, str):
        raise NoText(0)
    return [line.split(" ") for line in text.split("\n")]


def numbers_shown(numbers):
    """The text of some numbers, a blank between two."""
    return " ".join([str(number) for number in numbers])


def line_shown(word, numbers):
    """The line of a word and of numbers behind it, perhaps none."""
    return f"{word} {numbers_shown(numbers)}" if numbers else word
