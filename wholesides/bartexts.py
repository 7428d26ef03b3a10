"""Bars as texts."""

from wholesides.errors import NoText
from wholesides.faces import is_face
from wholesides.wholes import is_rising
from wholesides.words import is_from_0, line_shown, lines_in, numbers_in, placed_in

MOST_LINKS = 5


def set_line(laid, cut):
    """The line of a row of sets."""
    if cut is None:
        return line_shown("set", laid)
    k, face = cut
    return line_shown(line_shown("cut", laid) + " by", (k, *face))


def bar_lines(bar):
    """The list of the lines of a bar."""
    word = bar[0]
    if word == "link":
        return [line_shown("link", bar[1]), *bar_lines(bar[2])]
    if word == "evens":
        return [line_shown("even", numbers) for numbers in bar[1]]
    if word == "sets":
        return [set_line(laid, cut) for laid, cut in bar[1]]
    return [line_shown(word, bar[1] if word == "apart" else [bar[1]])]


def show_bar(bar):
    """The text of a bar."""
    return "\n".join(bar_lines(bar))


def rising_in(words):
    """The rising list of pieces' numbers that words write, None where they write none."""
    numbers = numbers_in(words)
    return numbers if all(is_from_0(k) for k in numbers) and is_rising(numbers) else None


def some_in(words):
    """The same, of one number at least."""
    return rising_in(words) if words else None


def size_in(words):
    """The one number from 0 on that words write, None where they write none."""
    numbers = numbers_in(words)
    return numbers[0] if len(numbers) == 1 and is_from_0(numbers[0]) else None


def face_in(words):
    """The face of one corner at least that words write, None where they write none."""
    face = tuple(numbers_in(words))
    return face if face and is_face(face) else None


def set_in(words):
    """The row of sets without a cut that words write, None where they write none."""
    laid = rising_in(words)
    return None if laid is None else (tuple(laid), None)


def cut_in(words):
    """The row of sets with a cut that words write, None where they write none."""
    if "by" not in words:
        return None
    at = words.index("by")
    laid, cut = rising_in(words[:at]), placed_in(words[at + 1:])
    return None if laid is None or cut is None else (tuple(laid), cut)


READERS = {
    "apart": some_in, "counts": size_in, "unlike": size_in, "even": some_in, "link": face_in, "set": set_in,
    "cut": cut_in}

# Which words can stand behind those that more lines can stand behind, but for links.
FOLLOWERS = {"even": ("even",), "set": ("set", "cut"), "cut": ("set", "cut")}


def told_in(word, rest):
    """What a line's first word and the rest of its words tell, None where it is no line of a bar."""
    if word not in READERS:
        return None
    reader = READERS[word]
    return reader(rest)


def can_follow(ahead, word):
    """Whether a line that begins with the word can stand behind lines that begin with those ahead."""
    if not ahead:
        return True
    if ahead[-1] == "link":
        return word != "link" or len(ahead) < MOST_LINKS
    return word in FOLLOWERS.get(ahead[-1], ())


def inner_bar(word, told):
    """The bar within all links, of the first word of its lines and of what they tell."""
    if word == "even":
        return ("evens", told)
    return ("sets", told) if word in ("set", "cut") else (word, told[0])


def bar_of(ahead, told):
    """The bar of the first words of all lines and of what they tell."""
    many = ahead.count("link")
    bar = inner_bar(ahead[-1], told[many:])
    for face in told[:many][::-1]:
        bar = ("link", face, bar)
    return bar


def read_bar(text):
    """The bar that a text writes, of whatever shape; NoText, of anything else."""
    ahead = []
    told = []
    for place, (word, *rest) in enumerate(lines_in(text)):
        thing = told_in(word, rest)
        if thing is None or not can_follow(ahead, word):
            raise NoText(place)
        ahead.append(word)
        told.append(thing)
    if ahead[-1] == "link":
        raise NoText(len(ahead))
    return bar_of(ahead, told)
