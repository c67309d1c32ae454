"""An honest house: it marks what it hears called, writes what enough houses mark, and names who lies."""

from latehouse.counts import check_count, enough, is_house
from latehouse.errors import BadHouse, BadRow, NotWritten
from latehouse.words import MARK, SAY, is_row, place


class House:
    """An honest house of a town."""

    def __init__(self, count, own):
        check_count(count)
        if not is_house(count, own):
            raise BadHouse("an honest house has the number of a house of the town")
        self._count = count
        self._own = own
        self._due = own
        self._known = {}
        self._earliest = {}
        self._marked = {}
        self._marks = {}
        self._rows = {}
        self._backings = {}
        self._named = {}

    def call(self, row):
        """Call a row at the number that is due; return a list of the words that the house tells."""
        if not is_row(row):
            raise BadRow("a row is a text of 1 to 8 letters a to z")
        say = (SAY, self._due, row, self._own)
        self._due += self._count
        return [say] + self.hear(say)

    def hear(self, word):
        """Hear a word; return a list of the words that the house tells."""
        if word in self._known:
            return []
        self._learn(word)
        mark = self._mark(word)
        backing = self._write(word)
        pair = self._name(word)
        return mark + backing + pair

    def ledger(self):
        """Return a dict from the numbers at which the house has written to the rows, numbers rising."""
        return {number: self._rows[number] for number in sorted(self._rows)}

    def backing(self, number):
        """Return a list of the marks by which a row was written."""
        # The kind is asked first: True would find 1, and some kinds cannot be looked up at all.
        if type(number) is not int or number not in self._backings:
            raise NotWritten("nothing is written at that number")
        return list(self._backings[number])

    def caught(self):
        """Return a list of tuples (house, word, word), as the houses were named."""
        return list(self._named.values())

    def _learn(self, word):
        """Know a word from now on."""
        self._known[word] = True
        # Only the earliest is kept, since a house is named as soon as a second one is known there.
        self._earliest.setdefault(place(word), word)
        kind, number, row, house = word
        if kind == MARK:
            marks = self._marks.setdefault((number, row), {})
            marks[house] = word

    def _mark(self, word):
        """Mark the row of a say, unless something is marked at its number; return the new marks."""
        kind, number, row, house = word
        if kind != SAY or number in self._marked:
            return []
        self._marked[number] = True
        mark = (MARK, number, row, self._own)
        self._learn(mark)
        return [mark]

    def _write(self, word):
        """Write the row of a word once enough houses have marked it; return the new backing."""
        kind, number, row, house = word
        marks = self._marks.get((number, row), {})
        if number in self._rows or len(marks) < enough(self._count):
            return []
        self._rows[number] = row
        self._backings[number] = [marks[marker] for marker in sorted(marks)]
        return list(self._backings[number])

    def _name(self, word):
        """Name the house of a word that is unlike an earlier one; return the two words."""
        house = word[3]
        earliest = self._earliest[place(word)]
        if earliest == word or house in self._named:
            return []
        self._named[house] = (house, earliest, word)
        return [earliest, word]
