"""Points 8 and 9: towns of honest houses and liars, and their letters."""

import copy
import unittest

from latehouse import town as town_file
from latehouse.errors import BadCount, BadHouse, BadRow, BadWord, Forged, NoLetter, NotWritten
from latehouse.town import Town
from tests.model import Draws, PlainTown, mark, marks, say
from tests.things import (
    NO_ROWS, Agreeing, Awkward, ThingsCase, things_of_no_count, things_of_no_number, things_of_no_text,
)


def letters_of(house, words, count):
    """What a house's words are sent as: word by word, each to all others, their numbers rising."""
    return [(house, other, word) for word in words for other in range(count) if other != house]


def bring_all(town):
    while town.waiting():
        town.bring(town.waiting()[0][0])


class TownCase(ThingsCase):
    def assert_looks_like(self, town, plain):
        """See that all that can be asked of a town is as it is of a plain one."""
        self.assertEqual(town.waiting(), plain.waiting())
        self.assertEqual(town.spoken(), plain.spoken)
        for house, plain_house in plain.houses.items():
            self.assertEqual(list(town.ledger(house).items()), list(plain_house.ledger().items()))
            self.assertEqual(town.caught(house), plain_house.named)
            for number, backing in plain_house.backings().items():
                self.assertEqual(town.backing(house, number), backing)


class CallTest(TownCase):
    def test_all_others_get_each_word_houses_rising(self):
        for count in range(2, 13):
            for house in {0, count // 2, count - 1}:
                town = Town(count, [])
                told = [say(house, "tea", house), mark(house, "tea", house)]
                self.assertEqual(town.call(house, "tea"), told)
                self.assertEqual(town.waiting(), list(enumerate(letters_of(house, told, count))))
                self.assertEqual(town.spoken(), told)

    def test_liars_get_letters_too(self):
        town = Town(4, [0, 3])
        told = town.call(1, "tea")
        self.assertEqual([letter for _, letter in town.waiting()], letters_of(1, told, 4))

    def test_the_next_rows(self):
        town = Town(3, [])
        for turn, row in enumerate(["tea", "jam", "bun"]):
            for house in range(3):
                number = house + 3 * turn
                self.assertEqual(town.call(house, row), [say(number, row, house), mark(number, row, house)])

    def test_a_town_of_one_house(self):
        town = Town(1, [])
        told = [say(0, "tea", 0), mark(0, "tea", 0), mark(0, "tea", 0)]
        self.assertEqual(town.call(0, "tea"), told)
        self.assertEqual(town.waiting(), [])
        self.assertEqual(town.spoken(), told[:2])
        self.assertEqual(town.ledger(0), {0: "tea"})
        self.assertEqual(town.backing(0, 0), [mark(0, "tea", 0)])
        self.assertEqual(town.caught(0), [])
        self.assert_refused(NoLetter, town.bring, 0)

    def test_no_error_beyond_the_last_number(self):
        town = Town(1, [])
        for turn in range(10000):
            town.call(0, "tea")
        town.call(0, "tea")
        self.assertEqual(town.ledger(0)[9999], "tea")


class BringTest(TownCase):
    def test_bring_tells_what_the_receiver_tells_and_sends_it_at_once(self):
        town = Town(4, [])
        town.call(0, "tea")
        self.assertEqual(town.waiting()[1], (1, (0, 2, say(0, "tea", 0))))
        told = [mark(0, "tea", 2)]
        self.assertEqual(town.bring(1), told)
        self.assertEqual([number for number, _ in town.waiting()], [0, 2, 3, 4, 5, 6, 7, 8])
        self.assertEqual([letter for _, letter in town.waiting()][-3:], letters_of(2, told, 4))
        self.assertEqual(town.spoken(), [say(0, "tea", 0), mark(0, "tea", 0), mark(0, "tea", 2)])

    def test_a_row_is_written_by_letters(self):
        town = Town(2, [])
        town.call(0, "tea")
        self.assertEqual(town.waiting(), [(0, (0, 1, say(0, "tea", 0))), (1, (0, 1, mark(0, "tea", 0)))])
        self.assertEqual(town.bring(1), [])
        self.assertEqual(town.bring(0), [mark(0, "tea", 1), *marks(0, "tea", [0, 1])])
        self.assertEqual(town.waiting(), list(enumerate(
            letters_of(1, [mark(0, "tea", 1), *marks(0, "tea", [0, 1])], 2), 2)))
        self.assertEqual((town.ledger(0), town.ledger(1)), ({}, {0: "tea"}))
        self.assertEqual(town.bring(4), marks(0, "tea", [0, 1]))
        self.assertEqual(town.ledger(0), {0: "tea"})
        self.assertEqual(town.backing(0, 0), marks(0, "tea", [0, 1]))

    def test_a_liar_tells_nothing(self):
        town = Town(4, [2])
        town.call(0, "tea")
        before = town.spoken()
        self.assertEqual(town.waiting()[1], (1, (0, 2, say(0, "tea", 0))))
        self.assertEqual(town.bring(1), [])
        self.assertEqual([number for number, _ in town.waiting()], [0, 2, 3, 4, 5])
        self.assertEqual(town.spoken(), before)
        self.assert_refused(NoLetter, town.bring, 1)

    def test_a_liar_hears_a_liar(self):
        town = Town(4, [2, 3])
        number = town.lie(2, 3, say(2, "tea", 2))
        self.assertEqual(town.bring(number), [])
        self.assertEqual(town.waiting(), [])

    def test_letters_are_brought_once(self):
        town = Town(3, [])
        town.call(0, "tea")
        town.bring(2)
        for turn in range(2):
            self.assert_refused(NoLetter, town.bring, 2)

    def test_a_word_that_is_known_sends_nothing(self):
        town = Town(4, [0])
        first, second = town.lie(0, 1, say(0, "tea", 0)), town.lie(0, 1, say(0, "tea", 0))
        self.assertEqual(town.bring(second), [mark(0, "tea", 1)])
        many = len(town.waiting())
        self.assertEqual(town.bring(first), [])
        self.assertEqual(len(town.waiting()), many - 1)

    def test_naming_by_letters(self):
        town = Town(4, [0])
        tea, jam = say(0, "tea", 0), say(0, "jam", 0)
        town.bring(town.lie(0, 1, tea))
        self.assertEqual(town.bring(town.lie(0, 1, jam)), [tea, jam])
        self.assertEqual([letter for _, letter in town.waiting()], letters_of(1, [mark(0, "tea", 1), tea, jam], 4))
        self.assertEqual(town.caught(1), [(0, tea, jam)])
        self.assertEqual(town.caught(2), [])
        bring_all(town)
        self.assertEqual([town.caught(house) for house in (1, 2, 3)], [[(0, tea, jam)]] * 3)


class LieTest(TownCase):
    def test_its_own_say_and_mark(self):
        for count in range(2, 13):
            liar = count - 1
            town = Town(count, [liar])
            words = [say(liar, "tea", liar), mark(0, "jam", liar), say(liar, "jam", liar), mark(0, "jam", liar)]
            for number, word in enumerate(words):
                self.assertEqual(town.lie(liar, 0, word), number)
            self.assertEqual(town.waiting(), [(number, (liar, 0, word)) for number, word in enumerate(words)])
            self.assertEqual(town.spoken(), words[:3])

    def test_numbers_go_on_behind_calls(self):
        town = Town(4, [3])
        self.assertEqual(town.lie(3, 1, mark(0, "tea", 3)), 0)
        town.call(0, "tea")
        told = town.lie(3, 2, mark(0, "tea", 3))
        self.assertEqual(told, 7)
        self.assertIs(type(told), int)

    def test_a_word_that_an_honest_house_told(self):
        town = Town(4, [3])
        for word in [say(0, "tea", 0), mark(0, "tea", 0)]:
            self.assert_refused(Forged, town.lie, 3, 1, word)
        town.call(0, "tea")
        # Spoken when it was told, not when it was brought.
        for number, word in enumerate([say(0, "tea", 0), mark(0, "tea", 0)], 6):
            self.assertEqual(town.lie(3, 1, word), number)
        self.assert_refused(Forged, town.lie, 3, 1, mark(0, "tea", 1))
        self.assertEqual(town.bring(6), [mark(0, "tea", 1)])
        town.lie(3, 2, mark(0, "tea", 1))
        town.lie(3, 1, mark(0, "tea", 1))

    def test_a_word_that_another_liar_sent(self):
        town = Town(4, [2, 3])
        for word in [say(3, "tea", 3), mark(9, "tea", 3)]:
            self.assert_refused(Forged, town.lie, 2, 0, word)
            town.lie(3, 2, word)
            town.lie(2, 0, word)
            town.lie(2, 3, word)
        self.assertEqual(town.spoken(), [say(3, "tea", 3), mark(9, "tea", 3)])
        self.assertEqual([letter for _, letter in town.waiting()], [
            (sender, receiver, word) for word in town.spoken() for sender, receiver in [(3, 2), (2, 0), (2, 3)]])

    def test_words_that_were_never_spoken(self):
        town = Town(4, [3])
        town.call(0, "tea")
        town.lie(3, 1, mark(0, "jam", 3))
        for word in [say(0, "jam", 0), mark(0, "jam", 0), mark(0, "tea", 1), say(4, "tea", 0), mark(4, "tea", 0),
                     mark(0, "jam", 1), say(1, "tea", 1), say(2, "tea", 2)]:
            waiting, spoken = town.waiting(), town.spoken()
            for receiver in (0, 1, 2):
                self.assert_refused(Forged, town.lie, 3, receiver, word)
            self.assertEqual((town.waiting(), town.spoken()), (waiting, spoken))

    def test_a_letter_to_itself_is_refused(self):
        town = Town(4, [3])
        self.assert_refused(BadHouse, town.lie, 3, 3, mark(0, "tea", 3))
        self.assertEqual((town.waiting(), town.spoken()), ([], []))
        self.assert_refused(BadHouse, Town(1, [0]).lie, 0, 0, mark(0, "tea", 0))

    def test_a_liar_may_send_to_a_liar(self):
        town = Town(4, [1, 3])
        self.assertEqual(town.lie(3, 1, mark(0, "tea", 3)), 0)
        self.assertEqual(town.waiting(), [(0, (3, 1, mark(0, "tea", 3)))])


class SpokenTest(TownCase):
    def test_each_word_once_as_they_first_were(self):
        town = Town(4, [3])
        tea = town.call(1, "tea")
        town.lie(3, 0, mark(1, "jam", 3))
        bun = town.call(0, "bun")
        town.lie(3, 2, mark(1, "jam", 3))
        town.lie(3, 2, tea[1])
        self.assertEqual(town.spoken(), [*tea, mark(1, "jam", 3), *bun])
        bring_all(town)
        told = town.spoken()
        self.assertEqual(told[:5], [*tea, mark(1, "jam", 3), *bun])
        self.assertEqual(len(told), len(set(told)))
        self.assertEqual(set(told[5:]), {mark(0, "bun", 1), mark(0, "bun", 2), mark(1, "tea", 0), mark(1, "tea", 2)})
        self.assertIs(type(told), list)

    def test_nothing_was_spoken(self):
        for town in (Town(1, []), Town(1, [0]), Town(4, []), Town(4, [0, 1, 2, 3])):
            self.assertEqual((town.spoken(), town.waiting()), ([], []))


class TownsTest(TownCase):
    def test_no_liars(self):
        town = Town(3, [])
        for house in range(3):
            town.call(house, "tea")
        self.assert_refused(BadHouse, town.lie, 0, 1, mark(0, "tea", 0))
        bring_all(town)
        for house in range(3):
            self.assertEqual(town.ledger(house), {0: "tea", 1: "tea", 2: "tea"})
            self.assertEqual(town.caught(house), [])

    def test_liars_alone(self):
        town = Town(3, [2, 0, 1])
        for house in range(3):
            for ask in (town.ledger, town.caught):
                self.assert_refused(BadHouse, ask, house)
            self.assert_refused(BadHouse, town.call, house, "tea")
            self.assert_refused(BadHouse, town.backing, house, 0)
        for number in range(4):
            self.assertEqual(town.lie(0, 1, say(0, "tea", 0)), number)
            self.assertEqual(town.bring(number), [])
        self.assertEqual(town.spoken(), [say(0, "tea", 0)])

    def test_a_town_of_one_liar(self):
        town = Town(1, [0])
        self.assert_refused(BadHouse, town.call, 0, "tea")
        self.assert_refused(BadHouse, town.lie, 0, 1, mark(0, "tea", 0))

    def test_drawn_deeds_against_a_plain_town(self):
        draws = Draws(9)
        for count in range(1, 8):
            for many in range(count + 1):
                liars = draws.some_of(range(count), many)
                town, plain = Town(count, liars), PlainTown(count, liars)
                for deed in range(60):
                    self.draw_deed(draws, town, plain, count, liars)
                self.assert_looks_like(town, plain)

    def draw_deed(self, draws, town, plain, count, liars):
        kind = draws.below(10)
        waiting = plain.waiting()
        if kind == 0 and plain.houses:
            house, row = draws.one_of(list(plain.houses)), draws.one_of(["tea", "jam"])
            self.assertEqual(town.call(house, row), plain.call(house, row))
        elif kind < 4 and liars and count > 1:
            liar = draws.one_of(liars)
            receiver = draws.one_of([house for house in range(count) if house != liar])
            number, row = draws.below(2 * count), draws.one_of(["tea", "tea", "jam"])
            words = [mark(number, row, liar), say(liar, row, liar), *(plain.spoken[-6:])]
            word = draws.one_of(words)
            self.assertEqual(town.lie(liar, receiver, word), plain.lie(liar, receiver, word))
        elif waiting:
            number = draws.one_of(waiting)[0]
            self.assertEqual(town.bring(number), plain.bring(number))

    def test_two_towns_do_not_touch_each_other(self):
        one, other = Town(4, [3]), Town(4, [3])
        one.call(0, "tea")
        one.lie(3, 1, mark(0, "tea", 3))
        bring_all(one)
        self.assertEqual((other.waiting(), other.spoken(), other.ledger(0)), ([], [], {}))
        self.assert_refused(Forged, other.lie, 3, 1, say(0, "tea", 0))


class RefusalTest(TownCase):
    def test_a_bad_count_is_ahead_of_bad_liars(self):
        for count in things_of_no_count():
            with self.handing(count):
                for liars in [[], [0], None, (), [99], [0, 0], Awkward(), Agreeing(), [True], "tea"]:
                    self.assert_refused(BadCount, Town, count, liars)

    def test_liars_that_are_no_list_of_different_houses(self):
        for count in range(1, 13):
            house = count - 1
            for liars in [[house, house], [0, 0], [count], [-1], [*range(count), 0], [*range(count + 1)], [12], [13],
                          [0, 99], [10 ** 5000], (), (0,), {}, {0: 0}, range(count), "", "0", b"", {0}, None, 0,
                          house, True, False, [None], [True], [False], [[0]], [(0,)], ["0"], [0.0], [[]], [{}]]:
                with self.handing(liars):
                    self.assert_refused(BadHouse, Town, count, liars)
            for thing in things_of_no_number():
                with self.handing(thing):
                    self.assert_refused(BadHouse, Town, count, [thing])
                    self.assert_refused(BadHouse, Town, count, [house, thing])
                    if type(thing) is not list:
                        self.assert_refused(BadHouse, Town, count, thing)

    def test_any_number_of_liars_in_any_order(self):
        draws = Draws(12)
        for count in range(1, 13):
            for many in range(count + 1):
                liars = draws.some_of(range(count), many)
                town = Town(count, liars)
                for house in range(count):
                    if house in liars:
                        self.assert_refused(BadHouse, town.ledger, house)
                    else:
                        self.assertEqual(town.ledger(house), {})

    def asked_of_no_honest_house(self, town, house):
        for row in ["tea", "", None, [], Awkward()]:
            self.assert_refused(BadHouse, town.call, house, row)
        for number in [0, 1, 99, None, [], {}, True, Awkward()]:
            self.assert_refused(BadHouse, town.backing, house, number)
        self.assert_refused(BadHouse, town.ledger, house)
        self.assert_refused(BadHouse, town.caught, house)

    def test_asked_of_a_liar_and_of_what_is_no_house(self):
        town, plain = Town(4, [1, 3]), PlainTown(4, [1, 3])
        for asked in (town, plain):
            asked.call(0, "tea")
            asked.lie(1, 2, mark(0, "tea", 1))
        for house in [1, 3, 4, -1, -2, 12, 10 ** 5000, *things_of_no_number(), 0.0, 2.0, "0", [0], (0,), {0: 0}]:
            with self.handing(house):
                self.asked_of_no_honest_house(town, house)
        self.assert_looks_like(town, plain)
        self.assertEqual(town.call(0, "jam"), plain.call(0, "jam"))

    def test_rows_that_are_none(self):
        town = Town(4, [3])
        for row in [*NO_ROWS, *things_of_no_text()]:
            with self.handing(row):
                self.assert_refused(BadRow, town.call, 2, row)
        self.assertEqual((town.waiting(), town.spoken()), ([], []))
        self.assertEqual(town.call(2, "tea"), [say(2, "tea", 2), mark(2, "tea", 2)])

    def test_backing_where_nothing_is_written(self):
        town = Town(3, [])
        town.call(0, "tea")
        town.call(1, "tea")
        bring_all(town)
        for number in [2, 3, -1, 9999, 10 ** 5000, *things_of_no_number(), 0.0, "0", [0], (0,), {0: 0}, {0}]:
            with self.handing(number):
                self.assert_refused(NotWritten, town.backing, 0, number)
        self.assertEqual(len(town.backing(0, 1)), 2)

    def test_no_letter_of_that_number(self):
        town, plain = Town(4, [3]), PlainTown(4, [3])
        for asked in (town, plain):
            asked.call(0, "tea")
            asked.bring(1)
        due = plain.waiting()[-1][0] + 1
        for number in [1, due, due + 1, -1, 10 ** 5000, *things_of_no_number(), 0.0, "0", [0], (0,), {0: 0}, {0}]:
            with self.handing(number):
                self.assert_refused(NoLetter, town.bring, number)
        self.assert_looks_like(town, plain)
        self.assertEqual(town.lie(3, 0, mark(9, "tea", 3)), due)

    def test_no_liar_of_the_town_lies(self):
        town = Town(4, [3])
        for house in [0, 1, 2, 4, -1, 10 ** 5000, *things_of_no_number(), 3.0, "3", [3], (3,)]:
            with self.handing(house):
                for receiver, word in [(1, mark(0, "tea", 3)), (house, None), (None, None), (3, say(0, "tea", 0))]:
                    self.assert_refused(BadHouse, town.lie, house, receiver, word)

    def test_the_receiver_is_another_house_of_the_town(self):
        town = Town(4, [1, 3])
        for receiver in [3, 4, -1, 10 ** 5000, *things_of_no_number(), 0.0, "0", [0], (0,)]:
            with self.handing(receiver):
                for word in [mark(0, "tea", 3), say(0, "tea", 0), None, Awkward(), ()]:
                    self.assert_refused(BadHouse, town.lie, 3, receiver, word)
        # True and False would pass for houses 1 and 0.
        for receiver in (True, False):
            self.assert_refused(BadHouse, town.lie, 3, receiver, mark(0, "tea", 3))
            self.assert_refused(BadHouse, town.lie, receiver, 0, mark(0, "tea", 1))

    def test_what_is_no_word_of_the_town(self):
        town = Town(4, [3])
        for word in [say(0, "tea", 3), say(3, "Tea", 3), mark(0, "", 3), mark(10000, "tea", 3), mark(-1, "tea", 3),
                     mark(0, "tea", 4), mark(0, "tea", -1), say(1, "tea", 0), ("tell", 0, "tea", 3), ("mark", 0, "tea"),
                     ("mark", 0, "tea", 3, 3), ["mark", 0, "tea", 3], ("mark", False, "tea", 3),
                     ("mark", 1, "tea", True), ("mark", [0], "tea", 3), ("mark", 0, ["tea"], 3),
                     *things_of_no_number(), "mark 0 tea by 3"]:
            with self.handing(word):
                self.assert_refused(BadWord, town.lie, 3, 0, word)
        self.assertEqual((town.waiting(), town.spoken()), ([], []))

    def test_several_refusals_at_once(self):
        town = Town(4, [3])
        forged, bad_word = mark(0, "tea", 0), mark(0, "Tea", 0)
        for receiver in (0, 3, 4, None, True, []):
            for word in (mark(0, "tea", 3), forged, bad_word, None):
                self.assert_refused(BadHouse, town.lie, 0, receiver, word)
        for receiver in (3, 4, None, True, []):
            for word in (forged, bad_word, None):
                self.assert_refused(BadHouse, town.lie, 3, receiver, word)
        # A word that is none is no forged one, whoever it is by.
        self.assert_refused(BadWord, town.lie, 3, 0, bad_word)
        self.assert_refused(BadWord, town.lie, 3, 0, say(1, "tea", 2))
        self.assert_refused(Forged, town.lie, 3, 0, forged)

    def test_behind_each_refusal_everything_is_as_it_was(self):
        draws = Draws(19)
        drawn = TownsTest()
        bad = [-1, 99, None, True, "tea", [], {}, (), 0.5]
        for count, liars in [(1, []), (2, [1]), (4, [0]), (4, [2, 1]), (5, [])]:
            town, plain = Town(count, liars), PlainTown(count, liars)
            for deed in range(60):
                drawn.draw_deed(draws, town, plain, count, liars)
                honest = list(plain.houses)[0]
                self.assert_refused(BadHouse, town.call, draws.one_of(bad + liars), "tea")
                self.assert_refused(BadRow, town.call, honest, draws.one_of([*NO_ROWS, None, [], 3]))
                self.assert_refused(NoLetter, town.bring, draws.one_of([-1, len(plain.letters), None, [], True, "0"]))
                self.assert_refused(NotWritten, town.backing, honest, draws.one_of([-1, 9999, *bad[2:]]))
                self.assert_refused(BadHouse, town.lie, honest, draws.one_of(bad), None)
                if liars:
                    other = draws.one_of([house for house in range(count) if house != liars[0]])
                    self.assert_refused(BadHouse, town.lie, liars[0], draws.one_of(bad + liars[:1]), None)
                    self.assert_refused(BadWord, town.lie, liars[0], other, draws.one_of(bad))
                    self.assert_refused(Forged, town.lie, liars[0], other, mark(9999, "bun", honest))
                self.assert_looks_like(town, plain)


class OwnTest(TownCase):
    """What is told is the asker's own; what is handed in may be changed later."""

    def busy_town(self):
        """A town and its plain twin in which rows are written, a house is named, and letters wait."""
        town, plain = Town(4, [3]), PlainTown(4, [3])
        for asked in (town, plain):
            asked.call(0, "tea")
            for receiver in (0, 1):
                asked.lie(3, receiver, mark(0, "tea", 3))
                asked.lie(3, receiver, mark(0, "jam", 3))
            for turn in range(40):
                asked.bring(asked.waiting()[turn % 3][0])
            asked.call(1, "bun")
        self.assert_looks_like(town, plain)
        return town, plain

    def told(self, town):
        """One of each list and dict that a town tells."""
        number = town.waiting()[0][0]
        return [town.waiting(), town.spoken(), town.ledger(0), town.backing(0, 0), town.caught(0),
                town.call(0, "jam"), town.bring(number)]

    def test_the_busy_town_is_busy(self):
        town, plain = self.busy_town()
        self.assertTrue(all(self.told(town)[:6]))
        self.assertEqual(town.ledger(0), {0: "tea"})
        self.assertEqual([named[0] for named in town.caught(0)], [3])

    def test_emptying_what_was_told_changes_nothing(self):
        town, plain = self.busy_town()
        for told in self.told(town):
            told.clear()
        number = plain.waiting()[0][0]
        plain.call(0, "jam")
        plain.bring(number)
        self.assert_looks_like(town, plain)
        while plain.waiting():
            number = plain.waiting()[-1][0]
            told = town.bring(number)
            self.assertEqual(told, plain.bring(number))
            told.clear()
        self.assert_looks_like(town, plain)

    def test_changing_what_was_told_changes_nothing(self):
        town, plain = self.busy_town()
        for told in self.told(town):
            if type(told) is dict:
                told[0] = "bun"
                told[9] = "bun"
            else:
                told.append(mark(9, "bun", 0))
                told.reverse()
        number = plain.waiting()[0][0]
        plain.call(0, "jam")
        plain.bring(number)
        self.assert_looks_like(town, plain)
        self.assert_refused(Forged, town.lie, 3, 0, mark(9, "bun", 0))

    def test_what_was_told_stays_as_it_was(self):
        town, plain = self.busy_town()
        told = self.told(town)
        kept = copy.deepcopy(told)
        town.lie(3, 2, mark(1, "jam", 3))
        town.call(2, "egg")
        bring_all(town)
        self.assertEqual(told, kept)

    def test_asking_changes_nothing(self):
        town, plain = self.busy_town()
        for turn in range(3):
            self.assert_looks_like(town, plain)

    def test_the_list_of_liars_may_be_changed_later(self):
        for change in (lambda liars: liars.clear(), lambda liars: liars.append(0), lambda liars: liars.reverse(),
                       lambda liars: liars.extend([0, 1]), lambda liars: liars.__setitem__(0, 0)):
            liars = [3, 2]
            town = Town(4, liars)
            change(liars)
            self.assertEqual(town.call(0, "tea"), [say(0, "tea", 0), mark(0, "tea", 0)])
            self.assertEqual(town.bring(0), [mark(0, "tea", 1)])
            for liar in (2, 3):
                self.assert_refused(BadHouse, town.ledger, liar)
                town.lie(liar, 0, mark(0, "tea", liar))
            self.assert_refused(BadHouse, town.lie, 0, 1, mark(0, "tea", 0))
            self.assertEqual([town.bring(number) for number in (1, 2)], [[], []])

    def test_what_is_handed_in_stays(self):
        for liars in [[3, 1, 2], [], [0], [1, 1], [9], [None], [[0]], {"liars": [0]}]:
            self.assert_unchanged(Town, 4, liars)
            self.assert_unchanged(Town, liars, liars)
        liars = [3, 1]
        town = Town(4, liars)
        town.call(0, "tea")
        bring_all(town)
        self.assertEqual(liars, [3, 1])
        for thing in [["mark", 0, "tea", 3], [0], {0: 0}, [], {}, ([],)]:
            for call in (town.bring, town.ledger, town.caught):
                self.assert_unchanged(call, thing)
            for call in (town.call, town.backing):
                self.assert_unchanged(call, thing, thing)
                self.assert_unchanged(call, 0, thing)
            self.assert_unchanged(town.lie, thing, thing, thing)
            self.assert_unchanged(town.lie, 3, thing, thing)
            self.assert_unchanged(town.lie, 3, 0, thing)

    def test_the_class_is_defined_here_with_its_methods(self):
        self.assertEqual(town_file.Town.__module__, "latehouse.town")
        for name in ["call", "bring", "lie", "waiting", "spoken", "ledger", "backing", "caught"]:
            self.assertIn(name, vars(Town))


if __name__ == "__main__":
    unittest.main()
