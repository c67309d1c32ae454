"""The post: letters that wait until they are brought, in any order."""

from latehouse.errors import NoLetter


class Post:
    """Letters by their numbers, the first one 0, each next one one more."""

    def __init__(self):
        self._due = 0
        self._letters = {}

    def send(self, letter):
        """Let a letter wait; return its number."""
        number = self._due
        self._letters[number] = letter
        self._due += 1
        return number

    def bring(self, number):
        """Return the letter of a number; it waits no more."""
        # The kind is asked first: True would find 1, and some kinds cannot be looked up at all.
        if type(number) is not int or number not in self._letters:
            raise NoLetter("no letter of that number waits")
        return self._letters.pop(number)

    def waiting(self):
        """Return a list of tuples (number, letter), rising by numbers."""
        # They rise without sorting, since each letter comes behind all those sent before.
        return list(self._letters.items())
