"""Points 6 and 7: an honest house."""

import copy
import unittest

from latehouse import house as house_file
from latehouse.errors import BadCount, BadHouse, BadRow, NotWritten
from latehouse.house import House
from latehouse.judge import is_backing
from tests.model import ENOUGH, Draws, PlainHouse, mark, marks, say
from tests.things import (
    NO_ROWS, Agreeing, Awkward, ThingsCase, things_of_no_count, things_of_no_number, things_of_no_text,
)

COUNTS = [1, 2, 3, 4, 7, 11, 12]


class HouseCase(ThingsCase):
    def assert_looks_like(self, house, plain):
        """See that all that can be asked of a house is as it is of a plain one."""
        self.assertEqual(list(house.ledger().items()), list(plain.ledger().items()))
        self.assertEqual(house.caught(), plain.named)
        for number, backing in plain.backings().items():
            self.assertEqual(house.backing(number), backing)


class MarkTest(HouseCase):
    """The first step: a say is marked where nothing was."""

    def test_a_say_is_marked(self):
        for count in COUNTS[2:]:
            house = House(count, 1)
            self.assertEqual(house.hear(say(0, "tea", 0)), [mark(0, "tea", 1)])
            self.assertEqual(house.hear(say(count, "jam", 0)), [mark(count, "jam", 1)])
            self.assertEqual(house.ledger(), {})
            self.assertEqual(house.caught(), [])

    def test_a_mark_is_not_marked(self):
        house = House(4, 1)
        self.assertEqual(house.hear(mark(0, "tea", 0)), [])
        self.assertEqual(house.hear(mark(0, "tea", 2)), [])
        self.assertEqual(house.hear(say(0, "jam", 0)), [mark(0, "jam", 1)])

    def test_a_second_say_of_another_row_is_not_marked(self):
        house = House(7, 2)
        self.assertEqual(house.hear(say(3, "tea", 3)), [mark(3, "tea", 2)])
        self.assertEqual(house.hear(say(3, "jam", 3)), [say(3, "tea", 3), say(3, "jam", 3)])
        self.assertEqual(house.hear(say(3, "bun", 3)), [])
        # Its mark at another number is another matter.
        self.assertEqual(house.hear(say(10, "jam", 3)), [mark(10, "jam", 2)])

    def test_a_known_word_tells_nothing(self):
        for count in COUNTS[2:]:
            house = House(count, 1)
            for word in [say(0, "tea", 0), mark(0, "tea", 0), mark(0, "jam", 2)]:
                house.hear(word)
                self.assertEqual(house.hear(word), [])
                self.assertEqual(house.hear(tuple(list(word))), [])

    def test_the_own_mark_that_comes_back_tells_nothing(self):
        for count in COUNTS[2:]:
            house = House(count, 1)
            house.hear(say(0, "tea", 0))
            before = house.ledger()
            self.assertEqual(house.hear(mark(0, "tea", 1)), [])
            self.assertEqual(house.ledger(), before)

    def test_the_own_mark_is_known_once(self):
        # Were its own mark counted again when it comes back, two would be enough too early.
        house = House(4, 1)
        house.hear(say(0, "tea", 0))
        house.hear(mark(0, "tea", 1))
        self.assertEqual(house.hear(mark(0, "tea", 2)), [])
        self.assertEqual(house.hear(mark(0, "tea", 3)), marks(0, "tea", [1, 2, 3]))


class WriteTest(HouseCase):
    """The second step: a row is written with the marks of enough houses."""

    def test_marks_ahead_of_any_say(self):
        for count in COUNTS[1:]:
            others = [other for other in range(count) if other != 0]
            if len(others) < ENOUGH[count]:
                continue
            house = House(count, 0)
            writers = others[-ENOUGH[count]:]
            for other in writers[:0:-1]:
                self.assertEqual(house.hear(mark(9, "tea", other)), [])
                self.assertEqual(house.ledger(), {})
            self.assertEqual(house.hear(mark(9, "tea", writers[0])), marks(9, "tea", writers))
            self.assertEqual(house.ledger(), {9: "tea"})
            self.assertEqual(house.backing(9), marks(9, "tea", writers))
            # A say that comes after is marked all the same, and writes nothing again.
            caller = 9 % count
            if caller != 0:
                self.assertEqual(house.hear(say(9, "tea", caller)), [mark(9, "tea", 0)])
                self.assertEqual(house.backing(9), marks(9, "tea", writers))

    def test_the_say_whose_own_mark_makes_them_enough(self):
        for count in COUNTS[1:]:
            for own in {0, count // 2, count - 1}:
                number = (own + 1) % count
                others = [other for other in range(count) if other != own][:ENOUGH[count] - 1]
                house = House(count, own)
                for other in others[::-1]:
                    self.assertEqual(house.hear(mark(number, "tea", other)), [])
                backing = marks(number, "tea", sorted([*others, own]))
                told = house.hear(say(number, "tea", number))
                self.assertEqual(told, [mark(number, "tea", own), *backing])
                self.assertEqual(house.backing(number), backing)
                self.assertEqual(house.ledger(), {number: "tea"})

    def test_the_say_ahead_of_the_marks(self):
        for count in COUNTS[1:]:
            own = count - 1
            house = House(count, own)
            self.assertEqual(house.hear(say(0, "tea", 0)), [mark(0, "tea", own)])
            others = list(range(ENOUGH[count] - 1))
            for other in others[:-1]:
                self.assertEqual(house.hear(mark(0, "tea", other)), [])
            backing = marks(0, "tea", [*others, own])
            self.assertEqual(house.hear(mark(0, "tea", others[-1])), backing)
            self.assertEqual(house.backing(0), backing)

    def test_the_say_between_the_marks(self):
        for count in COUNTS[4:]:
            own = 3
            house = House(count, own)
            others = [other for other in range(count) if other != own][1:ENOUGH[count]]
            first, rest = others[:2], others[2:]
            for other in first[::-1]:
                self.assertEqual(house.hear(mark(0, "tea", other)), [])
            self.assertEqual(house.hear(say(0, "tea", 0)), [mark(0, "tea", own)])
            for other in rest[:-1]:
                self.assertEqual(house.hear(mark(0, "tea", other)), [])
            self.assertEqual(house.hear(mark(0, "tea", rest[-1])), marks(0, "tea", sorted([*others, own])))

    def test_a_backing_is_enough_marks_and_rises_whatever_the_order(self):
        draws = Draws(66)
        for count in COUNTS[1:]:
            for turn in range(10):
                house = House(count, 0)
                words = draws.turned([say(1, "tea", 1), *marks(1, "tea", range(1, count))])
                told = [word for heard in words for word in house.hear(heard)]
                backing = house.backing(1)
                self.assertEqual(len(backing), ENOUGH[count])
                self.assertEqual(backing, sorted(backing, key=lambda word: word[3]))
                self.assertIs(is_backing(count, 1, "tea", backing), True)
                self.assertEqual([word for word in told if word in backing and word[3] != 0],
                                 [word for word in backing if word[3] != 0])
                self.assertEqual(house.ledger(), {1: "tea"})

    def test_marks_of_other_rows_and_numbers_are_not_counted(self):
        house = House(4, 0)
        for word in [mark(1, "tea", 1), mark(1, "jam", 2), mark(5, "tea", 2), mark(2, "tea", 3), mark(1, "tea", 2)]:
            house.hear(word)
            self.assertEqual(house.ledger(), {})
        self.assertEqual(house.hear(mark(1, "tea", 3)), marks(1, "tea", [1, 2, 3]))
        self.assertEqual(house.ledger(), {1: "tea"})

    def test_a_say_counts_as_no_mark(self):
        house = House(4, 1)
        house.hear(mark(0, "tea", 2))
        self.assertEqual(house.hear(say(0, "tea", 0)), [mark(0, "tea", 1)])
        self.assertEqual(house.ledger(), {})
        self.assertEqual(house.hear(mark(0, "tea", 0)), marks(0, "tea", [0, 1, 2]))

    def test_a_row_is_written_once_and_never_another_one(self):
        house = House(7, 0)
        for word in marks(1, "tea", [1, 2, 3, 4]):
            self.assertEqual(house.hear(word), [])
        self.assertEqual(house.hear(mark(1, "tea", 5)), marks(1, "tea", [1, 2, 3, 4, 5]))
        self.assertEqual(house.hear(mark(1, "tea", 6)), [])
        for other in range(1, 7):
            told = house.hear(mark(1, "jam", other))
            self.assertEqual(told, [mark(1, "tea", other), mark(1, "jam", other)])
        self.assertEqual(house.hear(say(1, "jam", 1)), [mark(1, "jam", 0)])
        self.assertEqual(house.ledger(), {1: "tea"})
        self.assertEqual(house.backing(1), marks(1, "tea", [1, 2, 3, 4, 5]))
        # At another number the other row is written.
        house.hear(say(8, "jam", 1))
        told = [word for other in range(1, 7) for word in house.hear(mark(8, "jam", other))]
        self.assertEqual(told, marks(8, "jam", [0, 1, 2, 3, 4]))
        self.assertEqual(house.ledger(), {1: "tea", 8: "jam"})

    def test_the_row_of_the_word_alone_is_looked_at(self):
        # Enough marks of one row are written with its own word, not with another row's.
        house = House(2, 0)
        house.hear(mark(1, "tea", 1))
        self.assertEqual(house.hear(say(1, "jam", 1)), [mark(1, "jam", 0)])
        self.assertEqual(house.ledger(), {})
        self.assertEqual(house.hear(mark(1, "jam", 1)), [
            mark(1, "jam", 0), mark(1, "jam", 1), mark(1, "tea", 1), mark(1, "jam", 1)])

    def test_a_ledger_rises_by_numbers(self):
        house = House(3, 0)
        for number in (8, 2, 9999, 5, 4, 10, 1):
            for other in (1, 2):
                house.hear(mark(number, "tea", other))
        self.assertEqual(list(house.ledger()), [1, 2, 4, 5, 8, 10, 9999])
        self.assertIs(type(house.ledger()), dict)


class NameTest(HouseCase):
    """The third step: who is caught in two unlike words is named with both."""

    def test_unlike_marks(self):
        house = House(4, 0)
        house.hear(mark(1, "tea", 2))
        self.assertEqual(house.caught(), [])
        self.assertEqual(house.hear(mark(1, "jam", 2)), [mark(1, "tea", 2), mark(1, "jam", 2)])
        self.assertEqual(house.caught(), [(2, mark(1, "tea", 2), mark(1, "jam", 2))])

    def test_unlike_says(self):
        house = House(4, 0)
        house.hear(say(6, "tea", 2))
        self.assertEqual(house.hear(say(6, "jam", 2)), [say(6, "tea", 2), say(6, "jam", 2)])
        self.assertEqual(house.caught(), [(2, say(6, "tea", 2), say(6, "jam", 2))])

    def test_words_that_are_not_unlike(self):
        house = House(4, 0)
        for word in [say(2, "tea", 2), mark(2, "jam", 2), mark(3, "bun", 2), mark(2, "egg", 1), mark(2, "tea", 3),
                     say(6, "egg", 2), mark(6, "tea", 2)]:
            house.hear(word)
        self.assertEqual(house.caught(), [])

    def test_a_house_is_named_once(self):
        house = House(12, 0)
        house.hear(mark(1, "tea", 2))
        house.hear(mark(1, "jam", 2))
        for word in [mark(1, "bun", 2), say(2, "tea", 2), say(2, "jam", 2), mark(7, "tea", 2), mark(7, "jam", 2)]:
            self.assertEqual([told for told in house.hear(word) if told[3] != 0], [])
        self.assertEqual(house.caught(), [(2, mark(1, "tea", 2), mark(1, "jam", 2))])

    def test_with_the_first_word_that_was_known_and_is_unlike(self):
        house = House(12, 0)
        for word in [mark(9, "egg", 2), mark(1, "tea", 2), say(2, "bun", 2), mark(5, "tea", 2)]:
            house.hear(word)
        self.assertEqual(house.hear(mark(5, "jam", 2)), [mark(5, "tea", 2), mark(5, "jam", 2)])
        self.assertEqual(house.caught(), [(2, mark(5, "tea", 2), mark(5, "jam", 2))])

    def test_houses_stand_as_they_were_named(self):
        house = House(12, 0)
        for other in (7, 3, 11):
            house.hear(mark(1, "tea", other))
        for other in (3, 11, 7):
            house.hear(mark(1, "jam", other))
        self.assertEqual(house.caught(), [(other, mark(1, "tea", other), mark(1, "jam", other))
                                          for other in (3, 11, 7)])

    def test_a_say_is_marked_and_writes_and_an_unlike_one_names(self):
        # No word does all three: who knows an unlike say has marked at its number already.
        for count in COUNTS[1:]:
            own = count - 1
            house = House(count, own)
            others = list(range(ENOUGH[count] - 1))
            for other in others[::-1]:
                house.hear(mark(0, "tea", other))
            backing = marks(0, "tea", [*others, own])
            self.assertEqual(house.hear(say(0, "tea", 0)), [mark(0, "tea", own), *backing])
            self.assertEqual(house.hear(say(0, "jam", 0)), [say(0, "tea", 0), say(0, "jam", 0)])
            self.assertEqual(house.backing(0), backing)

    def test_backing_and_naming_by_one_word(self):
        for count in COUNTS[1:]:
            house = House(count, count - 1)
            others = list(range(ENOUGH[count] - 1))
            house.hear(say(0, "tea", 0))
            house.hear(mark(0, "bun", others[0]))
            for other in others[:0:-1]:
                house.hear(mark(0, "tea", other))
            last = mark(0, "tea", others[0])
            backing = marks(0, "tea", [*others, count - 1])
            self.assertEqual(house.hear(last), [*backing, mark(0, "bun", others[0]), last])
            self.assertEqual(house.caught(), [(others[0], mark(0, "bun", others[0]), last)])


class OneHouseTest(HouseCase):
    def test_its_own_mark_is_enough(self):
        house = House(1, 0)
        for number, row in enumerate(["tea", "jam", "tea"]):
            own = mark(number, row, 0)
            self.assertEqual(house.call(row), [say(number, row, 0), own, own])
            self.assertEqual(house.backing(number), [own])
            self.assertEqual(house.hear(own), [])
            self.assertEqual(house.hear(say(number, row, 0)), [])
        self.assertEqual(house.ledger(), {0: "tea", 1: "jam", 2: "tea"})
        self.assertEqual(house.caught(), [])


class CallTest(HouseCase):
    def test_the_first_row_and_the_next_ones(self):
        for count in range(2, 13):
            for own in range(count):
                house = House(count, own)
                for turn, row in enumerate(["tea", "jam", "tea", "abcdefgh", "a"]):
                    number = own + turn * count
                    told = house.call(row)
                    self.assertEqual(told, [say(number, row, own), mark(number, row, own)])
                    self.assertEqual([type(part) for word in told for part in word], [str, int, str, int] * 2)

    def test_it_knows_its_own_say_and_mark(self):
        house = House(4, 2)
        house.call("tea")
        self.assertEqual(house.hear(say(2, "tea", 2)), [])
        self.assertEqual(house.hear(mark(2, "tea", 2)), [])
        self.assertEqual(house.ledger(), {})
        house.hear(mark(2, "tea", 0))
        self.assertEqual(house.hear(mark(2, "tea", 3)), marks(2, "tea", [0, 2, 3]))

    def test_a_call_whose_row_was_marked_before(self):
        for count in COUNTS[1:]:
            house = House(count, 0)
            others = list(range(1, ENOUGH[count]))
            for other in others:
                house.hear(mark(count, "jam", other))
            house.call("tea")
            backing = marks(count, "jam", [0, *others])
            self.assertEqual(house.call("jam"), [say(count, "jam", 0), mark(count, "jam", 0), *backing])
            self.assertEqual(house.ledger(), {count: "jam"})

    def test_a_call_where_another_row_was_written(self):
        house = House(7, 0)
        for other in range(1, 7):
            house.hear(mark(0, "jam", other))
        self.assertEqual(house.call("tea"), [say(0, "tea", 0), mark(0, "tea", 0)])
        self.assertEqual(house.ledger(), {0: "jam"})

    def test_calls_up_to_the_last_number_and_beyond(self):
        for count, own in [(12, 3), (7, 3), (1, 0)]:
            house = House(count, own)
            numbers = range(own, 10000, count)
            for number in numbers:
                self.assertEqual(house.call("tea")[0], say(number, "tea", own))
            self.assertEqual(house.ledger(), {number: "tea" for number in numbers} if count == 1 else {})
            # No error is told for a call beyond, whatever becomes of it.
            house.call("tea")


class DrawnTest(HouseCase):
    def draw_word(self, draws, plain, count, own):
        """A word of another house, or one that this house spoke."""
        own_words = [word for word in plain.known if word[3] == own]
        if own_words and draws.below(6) == 0:
            return draws.one_of(own_words)
        others = [other for other in range(count) if other != own]
        number = draws.below(2 * count if count < 5 else 4)
        row = draws.one_of(["tea", "tea", "tea", "jam"])
        if number % count != own and draws.below(4) == 0:
            return say(number, row, number % count)
        return mark(number, row, draws.one_of(others))

    def test_drawn_words_against_a_plain_house(self):
        draws = Draws(6)
        for count in range(2, 13):
            for turn in range(12):
                own = draws.below(count)
                house, plain = House(count, own), PlainHouse(count, own)
                for deed in range(70):
                    if draws.below(15) == 0:
                        row = draws.one_of(["tea", "jam"])
                        self.assertEqual(house.call(row), plain.call(row))
                    else:
                        word = self.draw_word(draws, plain, count, own)
                        self.assertEqual(house.hear(word), plain.hear(word))
                self.assert_looks_like(house, plain)


class RefusalTest(HouseCase):
    def test_a_bad_count_is_ahead_of_a_bad_house(self):
        for count in things_of_no_count():
            with self.handing(count):
                for own in [0, 1, 12, -1, None, True, "0", [], Awkward(), Agreeing()]:
                    self.assert_refused(BadCount, House, count, own)

    def test_a_house_that_is_none_of_the_town(self):
        for count in range(1, 13):
            for own in [-1, -2, -count, count, count + 1, 13, 100, 10 ** 5000, -10 ** 5000]:
                with self.handing(own):
                    self.assert_refused(BadHouse, House, count, own)
            for own in [*things_of_no_number(), 0.0, "0", [0], (0,), {0: 0}]:
                with self.handing(own):
                    self.assert_refused(BadHouse, House, count, own)

    def test_each_house_of_the_town_is_one(self):
        for count in range(1, 13):
            for own in range(count):
                self.assertEqual(House(count, own).call("tea")[0], say(own, "tea", own))

    def test_rows_that_are_none_change_nothing(self):
        for count in COUNTS:
            house = House(count, count - 1)
            for turn in range(2):
                for row in [*NO_ROWS, *things_of_no_text()]:
                    with self.handing(row):
                        self.assert_refused(BadRow, house.call, row)
                self.assertEqual(house.call("tea")[0], say(count - 1 + turn * count, "tea", count - 1))

    def test_backing_where_nothing_is_written(self):
        house = House(3, 0)
        for number in [0, 1, 2, 5, -1, 9999, 10000, 10 ** 5000, *things_of_no_number()]:
            with self.handing(number):
                self.assert_refused(NotWritten, house.backing, number)
        for word in [*marks(0, "tea", [1, 2]), *marks(1, "tea", [1, 2]), *marks(4, "tea", [1, 2]), mark(2, "tea", 1)]:
            house.hear(word)
        self.assertEqual(list(house.ledger()), [0, 1, 4])
        for number in [2, 3, 5, -1, -4, 9999, 10 ** 5000, *things_of_no_number(), 1.0, "1", [1], {1: 1}, {1}, [[]]]:
            with self.handing(number):
                self.assert_refused(NotWritten, house.backing, number)
        for number in (0, 1, 4):
            self.assertEqual(house.backing(number), marks(number, "tea", [1, 2]))

    def test_behind_each_refusal_everything_is_as_it_was(self):
        draws = Draws(16)
        bad_rows = [*NO_ROWS, None, 7, [], {}, ("tea",), True]
        bad_numbers = [-1, 9999, None, True, False, "0", [], {}, (0,), 0.0]
        for count in range(1, 13):
            own = draws.below(count)
            house, plain = House(count, own), PlainHouse(count, own)
            for deed in range(40):
                for refusal in range(2):
                    self.assert_refused(BadRow, house.call, draws.one_of(bad_rows))
                    self.assert_refused(NotWritten, house.backing, draws.one_of(bad_numbers))
                self.assert_looks_like(house, plain)
                if count == 1 or draws.below(4) == 0:
                    self.assertEqual(house.call("tea"), plain.call("tea"))
                else:
                    other = draws.one_of([other for other in range(count) if other != own])
                    word = mark(draws.below(3), draws.one_of(["tea", "jam"]), other)
                    self.assertEqual(house.hear(word), plain.hear(word))
            self.assert_looks_like(house, plain)


class OwnTest(HouseCase):
    """What is told is the asker's own; what is handed in stays."""

    def drawn_house(self):
        house, plain = House(4, 0), PlainHouse(4, 0)
        for word in [*marks(1, "tea", [1, 2, 3]), mark(2, "tea", 1), mark(2, "jam", 1), *marks(6, "tea", [3, 2])]:
            house.hear(word)
            plain.hear(word)
        return house, plain

    def test_emptying_what_was_told_changes_nothing(self):
        house, plain = self.drawn_house()
        for told in [house.ledger(), house.caught(), house.backing(1), house.call("tea"), house.hear(say(1, "tea", 1)),
                     house.hear(mark(6, "tea", 1)), house.hear(mark(9, "tea", 1)), house.hear(mark(9, "jam", 2))]:
            told.clear()
        plain.call("tea")
        for word in [say(1, "tea", 1), mark(6, "tea", 1), mark(9, "tea", 1), mark(9, "jam", 2)]:
            plain.hear(word)
        self.assert_looks_like(house, plain)
        self.assertEqual(house.call("tea"), plain.call("tea"))

    def test_changing_what_was_told_changes_nothing(self):
        house, plain = self.drawn_house()
        ledger, caught, backing = house.ledger(), house.caught(), house.backing(1)
        ledger[1] = "jam"
        ledger[8] = "bun"
        caught[0] = None
        caught.append((3, None, None))
        backing[0] = None
        backing.reverse()
        told = house.hear(mark(6, "tea", 1))
        self.assertEqual(told, marks(6, "tea", [1, 2, 3]))
        told[0] = None
        told = house.hear(mark(1, "jam", 2))
        self.assertEqual(told, [mark(1, "tea", 2), mark(1, "jam", 2)])
        told.append(None)
        plain.hear(mark(6, "tea", 1))
        plain.hear(mark(1, "jam", 2))
        self.assert_looks_like(house, plain)

    def test_what_was_told_stays_as_it_was(self):
        house, plain = self.drawn_house()
        told = [house.ledger(), house.caught(), house.backing(1), house.call("tea"), house.hear(mark(6, "tea", 1)),
                house.hear(mark(1, "jam", 2)), house.hear(say(1, "tea", 1))]
        kept = copy.deepcopy(told)
        house.call("jam")
        for number in range(12):
            for row in ("tea", "jam"):
                for other in (1, 2, 3):
                    house.hear(mark(number, row, other))
        self.assertEqual(told, kept)

    def test_asking_changes_nothing(self):
        house, plain = self.drawn_house()
        for turn in range(3):
            self.assert_looks_like(house, plain)
        self.assertEqual(house.call("tea"), plain.call("tea"))

    def test_what_is_handed_in_stays(self):
        house = House(4, 0)
        for thing in [["tea"], {"tea": 1}, [], {}, ([],)]:
            self.assert_unchanged(house.call, thing)
            self.assert_unchanged(house.backing, thing)
            self.assert_unchanged(House, thing, thing)
            self.assert_unchanged(House, 4, thing)

    def test_two_houses_do_not_touch_each_other(self):
        one, other = House(4, 0), House(4, 0)
        for word in [*marks(1, "tea", [1, 2, 3]), mark(1, "jam", 3)]:
            one.hear(word)
        one.call("tea")
        self.assertEqual((other.ledger(), other.caught()), ({}, []))
        self.assertEqual(other.call("jam"), [say(0, "jam", 0), mark(0, "jam", 0)])

    def test_the_class_is_defined_here_with_its_methods(self):
        self.assertEqual(house_file.House.__module__, "latehouse.house")
        for name in ["call", "hear", "ledger", "backing", "caught"]:
            self.assertIn(name, vars(House))


if __name__ == "__main__":
    unittest.main()
