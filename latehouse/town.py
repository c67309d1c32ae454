"""A town of honest houses and liars, who tell each other words by letters."""

from latehouse.counts import check_count, is_house
from latehouse.errors import BadHouse, BadWord, Forged
from latehouse.house import House
from latehouse.post import Post
from latehouse.words import is_word


def are_different_houses(count, thing):
    """Tell whether a thing, of any kind, is a list of different houses of a town of so many."""
    if type(thing) is not list:
        return False
    # Only what surely are houses goes into the set: other kinds may not, or pass for another one.
    if not all([is_house(count, house) for house in thing]):
        return False
    houses = set(thing)
    return len(houses) == len(thing)


class Town:
    """Houses, some of them liars, and the letters between them."""

    def __init__(self, count, liars):
        check_count(count)
        if not are_different_houses(count, liars):
            raise BadHouse("the liars are a list of different houses of the town")
        self._count = count
        self._honest = {house: House(count, house) for house in range(count) if house not in liars}
        self._post = Post()
        self._spoken = {}

    def call(self, house, row):
        """Let an honest house call a row; return a list of the words that it tells."""
        told = self._honest_house(house).call(row)
        self._tell(house, told)
        return told

    def bring(self, number):
        """Bring a letter; return a list of the words that its receiver tells."""
        sender, receiver, word = self._post.bring(number)
        if receiver not in self._honest:
            return []
        told = self._honest[receiver].hear(word)
        self._tell(receiver, told)
        return told

    def lie(self, house, receiver, word):
        """Let a liar send a word; return the letter's number."""
        if not is_house(self._count, house) or house in self._honest:
            raise BadHouse("only a liar of the town lies")
        if not is_house(self._count, receiver) or receiver == house:
            raise BadHouse("a liar sends to another house of the town")
        if not is_word(self._count, word):
            raise BadWord("a liar sends words of the town")
        if word[3] != house and word not in self._spoken:
            raise Forged("a word of another house is sent only if it was spoken")
        self._spoken[word] = True
        return self._post.send((house, receiver, word))

    def waiting(self):
        """Return a list of tuples (number, letter), rising by numbers."""
        return self._post.waiting()

    def spoken(self):
        """Return a list of all words that were spoken, as they first were."""
        return list(self._spoken)

    def ledger(self, house):
        """Return a dict from the numbers at which an honest house has written to the rows, numbers rising."""
        return self._honest_house(house).ledger()

    def backing(self, house, number):
        """Return a list of the marks by which an honest house has written a row."""
        return self._honest_house(house).backing(number)

    def caught(self, house):
        """Return a list of tuples (house, word, word), as an honest house has named them."""
        return self._honest_house(house).caught()

    def _honest_house(self, house):
        """Return the honest house of a number; refuse what is none."""
        if not is_house(self._count, house) or house not in self._honest:
            raise BadHouse("only an honest house of the town is asked")
        return self._honest[house]

    def _tell(self, house, words):
        """Send words of an honest house to all others."""
        for word in words:
            # A word that was spoken before keeps its earlier place in the dict.
            self._spoken[word] = True
            for receiver in range(self._count):
                if receiver != house:
                    self._post.send((house, receiver, word))
