"""Words written as texts, and read from them."""

from latehouse.counts import check_count
from latehouse.errors import NoText
from latehouse.words import is_word

FIGURES = "0123456789"
# As many as the last number has. Longer texts are never turned into numbers,
# since Python fails in its own way on those of thousands of figures.
MOST_FIGURES = 4


def shown(word):
    """Return a word written as a text."""
    kind, number, row, house = word
    return f"{kind} {number} {row} by {house}"


def is_written_number(text):
    """Tell whether a text is a number as words are written: no 0 ahead, no sign."""
    if len(text) < 1 or len(text) > MOST_FIGURES:
        return False
    if text[0] == "0" and text != "0":
        return False
    return all([figure in FIGURES for figure in text])


def read(count, text):
    """Return the word of a town of so many houses that is written as this text."""
    check_count(count)
    if type(text) is not str:
        raise NoText("only a text is read")
    parts = text.split(" ")
    if len(parts) != 5:
        raise NoText("a word is written in five parts, with one blank between")
    kind, number, row, by, house = parts
    if by != "by":
        raise NoText("the house stands behind by")
    if not is_written_number(number) or not is_written_number(house):
        raise NoText("a number is written by figures, the first no 0 but of 0 itself")
    word = (kind, int(number), row, int(house))
    if not is_word(count, word):
        raise NoText("the text tells no word of the town")
    return word
