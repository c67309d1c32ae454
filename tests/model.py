"""What the tests hold the program against: drawn numbers, and a house and a town told as plainly as can be."""

# For each number of houses from nought to twelve, written out.
MOST_LIARS = [None, 0, 0, 0, 1, 1, 1, 2, 2, 2, 3, 3, 3]
ENOUGH = [None, 1, 2, 2, 3, 4, 4, 5, 6, 6, 7, 8, 8]
SHARED = [None, 1, 2, 1, 2, 3, 2, 3, 4, 3, 4, 5, 4]


class Draws:
    """A fixed row of numbers that looks like chance and is none."""

    def __init__(self, start):
        self.state = start

    def below(self, most):
        """The next number from nought to one less than the most."""
        self.state = (self.state * 6364136223846793005 + 1442695040888963407) % 2 ** 64
        return (self.state >> 33) % most

    def one_of(self, things):
        return things[self.below(len(things))]

    def some_of(self, things, many):
        """So many different ones of the things, in a drawn order."""
        left = list(things)
        return [left.pop(self.below(len(left))) for _ in range(many)]

    def turned(self, things):
        """The same things in a drawn order."""
        return self.some_of(things, len(things))


def say(number, row, house):
    return ("say", number, row, house)


def mark(number, row, house):
    return ("mark", number, row, house)


def marks(number, row, houses):
    return [mark(number, row, house) for house in houses]


def unlike(one, other):
    return one[0] == other[0] and one[1] == other[1] and one[3] == other[3] and one[2] != other[2]


class PlainHouse:
    """An honest house that looks through all that it knows, at each step."""

    def __init__(self, count, own):
        self.count = count
        self.own = own
        self.calls = 0
        self.known = []
        self.written = []
        self.named = []

    def call(self, row):
        word = say(self.own + self.calls * self.count, row, self.own)
        self.calls += 1
        return [word, *self.hear(word)]

    def hear(self, word):
        if word in self.known:
            return []
        before = [known for known in self.known if unlike(known, word)]
        self.known.append(word)
        kind, number, row, house = word
        told = []
        own_marks = [known for known in self.known if known[:2] == ("mark", number) and known[3] == self.own]
        if kind == "say" and not own_marks:
            told.append(mark(number, row, self.own))
            self.known.append(mark(number, row, self.own))
        backing = [known for known in self.known if known[:3] == ("mark", number, row)]
        if len(backing) >= ENOUGH[self.count] and number not in [at for at, _, _ in self.written]:
            backing = sorted(backing, key=lambda known: known[3])
            self.written.append((number, row, backing))
            told.extend(backing)
        if before and house not in [who for who, _, _ in self.named]:
            self.named.append((house, before[0], word))
            told.extend([before[0], word])
        return told

    def ledger(self):
        return {number: row for number, row, _ in sorted(self.written)}

    def backings(self):
        return {number: backing for number, _, backing in sorted(self.written)}


class PlainTown:
    """A town of plain houses; its letters stand in one list, None where one was brought."""

    def __init__(self, count, liars):
        self.count = count
        self.houses = {house: PlainHouse(count, house) for house in range(count) if house not in liars}
        self.letters = []
        self.spoken = []

    def speak(self, word):
        if word not in self.spoken:
            self.spoken.append(word)

    def tell(self, house, told):
        for word in told:
            self.speak(word)
            self.letters.extend((house, other, word) for other in range(self.count) if other != house)
        return told

    def call(self, house, row):
        return self.tell(house, self.houses[house].call(row))

    def bring(self, number):
        _, receiver, word = self.letters[number]
        self.letters[number] = None
        if receiver not in self.houses:
            return []
        return self.tell(receiver, self.houses[receiver].hear(word))

    def lie(self, house, receiver, word):
        self.speak(word)
        self.letters.append((house, receiver, word))
        return len(self.letters) - 1

    def waiting(self):
        return [(number, letter) for number, letter in enumerate(self.letters) if letter is not None]
