"""Words, texts and slow, plain readings that the tests of texts share."""

from samples import FIGURES_30, FIGURES_31, NOTHINGS

NO_TEXTS = [thing for thing in NOTHINGS if type(thing) is not str] + [0, 1, -1, ("piece 1",), ["piece 1"], {"piece 1": 1}]
# Words that write no whole number.
NO_NUMBERS = [
    "", "+1", "01", "00", "-0", "-01", "--1", "-", "1-", "1.0", "1e3", "1_0", "0x1", "x", "piece", "lay", "by", "(1,)",
    "1,", ",", "~", "None", "True", str(FIGURES_31), str(-FIGURES_31), "0" + str(FIGURES_30), "9" * 31, "1" * 60,
    "-" + "1" * 60, "9" * 5000, "\u00b2", "\u0661", "-\u0661"]


def plain_number(word):
    """The number that a word writes, figure by figure, None where it writes none."""
    figures = word[1:] if word[:1] == "-" else word
    if not 1 <= len(figures) <= 30 or set(figures) - set("0123456789"):
        return None
    if figures[0] == "0" and word != "0":
        return None
    return int(word)


def rising_face(numbers):
    return len(numbers) <= 6 and None not in numbers and all(a < b for a, b in zip(numbers, numbers[1:]))


def changed(text, dice):
    """A text like this one, with a thing or two in it otherwise."""
    for _ in range(dice.choice([1, 1, 2])):
        at = dice.randint(0, len(text))
        to = min(len(text), at + dice.choice([0, 1, 1, 2, 5]))
        text = text[:at] + dice.choice(["", " ", "\n", "-", "0", "1", "9", "a", "piece", "lay 1", " 3"]) + text[to:]
        if dice.random() < 0.3:
            lines = text.split("\n")
            lines.insert(dice.randint(0, len(lines)), dice.choice(lines))
            text = "\n".join(lines)
    return text
