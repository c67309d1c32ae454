"""Rows, and the words by which houses call them and mark them."""

from latehouse.counts import check_count, is_house, is_whole

SAY = "say"
MARK = "mark"
LAST_NUMBER = 9999
LONGEST_ROW = 8
LETTERS = "abcdefghijklmnopqrstuvwxyz"


def is_row(thing):
    """Tell whether a thing, of any kind, is a row."""
    if type(thing) is not str:
        return False
    if len(thing) < 1 or len(thing) > LONGEST_ROW:
        return False
    return all([letter in LETTERS for letter in thing])


def caller(count, number):
    """Return the house that calls the row of a number."""
    return number % count


def is_word(count, thing):
    """Tell whether a thing, of any kind, is a word of a town of so many houses."""
    check_count(count)
    if type(thing) is not tuple or len(thing) != 4:
        return False
    kind, number, row, house = thing
    if not is_whole(number, 0, LAST_NUMBER) or not is_house(count, house):
        return False
    if not is_row(row):
        return False
    # Compared only once it is a text: another kind may compare itself in its own way.
    if type(kind) is not str:
        return False
    if kind == SAY:
        return house == caller(count, number)
    return kind == MARK


def place(word):
    """Return what a word has in common with an unlike one: its kind, number and house."""
    kind, number, row, house = word
    return (kind, number, house)


def are_unlike(one, other):
    """Tell whether two words differ in nothing but the row."""
    return place(one) == place(other) and one[2] != other[2]
