"""Points 10 and 11: what whole towns promise, whatever is said, lied, brought or not."""

import unittest

from latehouse.errors import NotWritten
from latehouse.judge import blamed, is_backing
from latehouse.town import Town
from tests.model import ENOUGH, MOST_LIARS, SHARED, Draws, mark, say, unlike

ROWS = ["tea", "jam", "bun"]


class Story:
    """A town in which drawn deeds are done, with the rows that its honest houses called."""

    def __init__(self, test, count, liars, start):
        self.test = test
        self.count = count
        self.liars = liars
        self.honest = [house for house in range(count) if house not in liars]
        self.draws = Draws(start)
        self.town = Town(count, liars)
        self.called = {}

    def call(self):
        told = self.town.call(self.draws.one_of(self.honest), self.draws.one_of(ROWS))
        self.called[told[0][1]] = told[0][2]

    def send_unlike(self, make):
        """Let a liar tell each honest house, or not, one of two words."""
        for house in self.honest:
            choice = self.draws.below(3)
            if choice < 2:
                liar, word = make(choice)
                self.town.lie(liar, house, word)

    def lie_says(self):
        liar = self.draws.one_of(self.liars)
        number = liar + self.count * self.draws.below(2)
        rows = self.draws.some_of(ROWS, 2)
        self.send_unlike(lambda choice: (liar, say(number, rows[choice], liar)))

    def lie_marks(self):
        number = self.draws.below(2 * self.count)
        rows = self.draws.some_of(ROWS, 2)
        for liar in self.liars:
            self.send_unlike(lambda choice: (liar, mark(number, rows[choice], liar)))

    def pass_on(self):
        """Let a liar send words of others that were spoken."""
        liar = self.draws.one_of(self.liars)
        for house in self.honest:
            if self.town.spoken():
                self.town.lie(liar, house, self.draws.one_of(self.town.spoken()))

    def bring(self):
        """Bring one of the letters that wait, if any does."""
        waiting = self.town.waiting()
        if waiting:
            self.town.bring(self.draws.one_of(waiting)[0])

    def deed(self):
        kind = self.draws.below(12)
        if kind == 0 and len(self.called) < 4 and self.honest:
            self.call()
        elif kind < 4 and self.liars and self.honest:
            [self.lie_says, self.lie_marks, self.pass_on][kind - 1]()
        else:
            self.bring()

    def rows_by_number(self):
        """For each number the honest houses that have written there, with their rows."""
        found = {}
        for house in self.honest:
            for number, row in self.town.ledger(house).items():
                found.setdefault(number, []).append((house, row))
        return found

    def check_backings(self):
        for number, written in self.rows_by_number().items():
            for house, row in written:
                backing = self.town.backing(house, number)
                self.test.assertIs(is_backing(self.count, number, row, backing), True)
                self.test.assertEqual({word[:3] for word in backing}, {("mark", number, row)})
                self.test.assertGreaterEqual(len({word[3] for word in backing}), ENOUGH[self.count])
                # Nobody spoke for another one: each mark was spoken by its house.
                self.test.assertLessEqual(set(backing), set(self.town.spoken()))

    def check_named(self):
        for house in self.honest:
            named = self.town.caught(house)
            self.test.assertEqual(len({who for who, _, _ in named}), len(named))
            for who, one, other in named:
                self.test.assertIn(who, self.liars)
                self.test.assertEqual(one[3], who)
                self.test.assertTrue(unlike(one, other))

    def check_one_ledger(self):
        """Point 10 with no more than the most liars."""
        for number, written in self.rows_by_number().items():
            self.test.assertEqual(len({row for _, row in written}), 1)

    def check_blame(self):
        """Point 10 with any number of liars; return how many pairs of honest houses differ."""
        splits = 0
        for number, written in self.rows_by_number().items():
            for house, row in written:
                for other, other_row in written:
                    if row == other_row:
                        continue
                    splits += 1
                    blames = blamed(self.town.backing(house, number), self.town.backing(other, number))
                    self.test.assertGreaterEqual(len(blames), SHARED[self.count])
                    self.test.assertLessEqual({blame[0] for blame in blames}, set(self.liars))
                    self.test.assertTrue(all(unlike(one, two) for _, one, two in blames))
        return splits

    def check(self):
        self.check_backings()
        self.check_named()
        if len(self.liars) <= MOST_LIARS[self.count]:
            self.check_one_ledger()
        self.check_blame()

    def check_all_brought(self):
        """Point 11."""
        self.test.assertEqual(self.town.waiting(), [])
        ledgers = [list(self.town.ledger(house).items()) for house in self.honest]
        names = [{named[0] for named in self.town.caught(house)} for house in self.honest]
        for house, ledger, named in zip(self.honest, ledgers, names):
            self.test.assertEqual(ledger, ledgers[0])
            self.test.assertEqual(named, names[0])
            for number, row in self.called.items():
                self.test.assertEqual(dict(ledger).get(number), row)

    def bring_all(self):
        while self.town.waiting():
            for turn in range(20):
                self.bring()
            self.check()


def drawn_liars(count, many, start):
    return Draws(start).some_of(range(count), many)


class WholeTest(unittest.TestCase):
    def test_towns_that_bear_their_liars(self):
        for count in range(1, 8):
            for many in range(MOST_LIARS[count] + 1):
                for start in range(6):
                    with self.subTest(count=count, many=many, start=start):
                        story = Story(self, count, drawn_liars(count, many, start), 100 * count + start)
                        self.tell(story)

    def tell(self, story):
        for part in range(2):
            for turn in range(40):
                story.deed()
                story.check()
            story.bring_all()
            story.check_all_brought()

    def test_rows_are_called_and_liars_named_in_these_towns(self):
        # Were nothing written and nobody named, the promises would hold for nothing.
        written = named = 0
        for count in (4, 5, 6, 7):
            story = Story(self, count, [count - 1], count)
            self.tell(story)
            written += len(story.town.ledger(0))
            named += len(story.town.caught(0))
            self.assertTrue(story.called)
        self.assertGreater(written, 8)
        self.assertGreater(named, 2)

    def test_larger_towns(self):
        for count, many in [(8, 2), (10, 3), (12, 3)]:
            story = Story(self, count, drawn_liars(count, many, count), count)
            for turn in range(25):
                story.deed()
            story.bring_all()
            story.check_all_brought()

    def test_towns_of_any_number_of_liars(self):
        for count in range(2, 8):
            for many in range(MOST_LIARS[count] + 1, count + 1):
                for start in range(3):
                    with self.subTest(count=count, many=many, start=start):
                        story = Story(self, count, drawn_liars(count, many, start), 1000 * count + start)
                        for turn in range(60):
                            story.deed()
                            story.check()
                        story.bring_all()

    def test_liars_that_split_a_town(self):
        for count, many in [(3, 1), (4, 2), (5, 3), (6, 2), (6, 3), (7, 3), (7, 4), (12, 4)]:
            with self.subTest(count=count, many=many):
                story = self.split(count, list(range(many)))
                self.assertGreater(story.check_blame(), 0)
                story.check()
                story.bring_all()

    def test_no_split_with_the_most_liars(self):
        for count in range(4, 13):
            with self.subTest(count=count):
                story = self.split(count, list(range(MOST_LIARS[count])))
                story.check()
                self.assertEqual(story.check_blame(), 0)
                story.bring_all()
                story.check_all_brought()

    def split(self, count, liars):
        """Liars tell one half of the honest houses another row than the other half; each half hears itself alone."""
        story = Story(self, count, liars, count)
        half = len(story.honest) // 2
        sides = {house: ROWS[at >= half] for at, house in enumerate(story.honest)}
        for house, row in sides.items():
            story.town.lie(0, house, say(0, row, 0))
            for liar in liars:
                story.town.lie(liar, house, mark(0, row, liar))
        for number, (_, receiver, word) in story.town.waiting():
            story.town.bring(number)
        for number, (_, receiver, word) in story.town.waiting():
            if sides.get(receiver) == word[2] and word[:2] == ("mark", 0):
                story.town.bring(number)
        return story

    def test_letters_that_are_never_brought(self):
        for count in range(2, 8):
            story = Story(self, count, [], count)
            for house in range(count):
                story.town.call(house, "tea")
            story.check()
            for house in range(count):
                self.assertEqual(story.town.ledger(house), {})
                with self.assertRaises(NotWritten):
                    story.town.backing(house, house)


if __name__ == "__main__":
    unittest.main()
