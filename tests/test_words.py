"""Point 3: rows, callers, words, and unlike words."""

import unittest

from latehouse import words
from latehouse.errors import BadCount
from latehouse.words import are_unlike, caller, is_row, is_word
from tests.things import (
    NO_ROWS, Agreeing, Awkward, ThingsCase, things_of_no_count, things_of_no_number, things_of_no_text,
)

ALPHABET = "abcdefghijklmnopqrstuvwxyz"
ROWS = ["a", "z", "m", "by", "say", "mark", "tea", "teapot", "abcdefg", "abcdefgh", "zzzzzzzz"]


class RowTest(ThingsCase):
    def test_rows_of_one_to_eight_letters(self):
        for row in [*ROWS, *ALPHABET]:
            with self.subTest(row=row):
                self.assertIs(is_row(row), True)

    def test_each_length(self):
        for length in range(30):
            with self.subTest(length=length):
                self.assertIs(is_row(ALPHABET[:length]), 1 <= length <= 8)

    def test_each_letter_at_each_place(self):
        for code in range(0, 400):
            for row in [chr(code), "te" + chr(code), chr(code) + "ea", "te" + chr(code) + "pot"]:
                with self.subTest(row=row):
                    self.assertIs(is_row(row), chr(code) in ALPHABET)

    def test_texts_that_are_no_rows(self):
        for text in NO_ROWS:
            with self.subTest(text=text):
                self.assertIs(is_row(text), False)

    def test_what_is_no_text_is_no_row(self):
        for thing in things_of_no_text():
            with self.handing(thing):
                self.assertIs(is_row(thing), False)

    def test_what_is_handed_in_stays(self):
        for thing in [["tea"], ["t", "e"], {"tea": 1}, {"t", "e"}, ([],), []]:
            with self.handing(thing):
                self.assert_unchanged(is_row, thing)


class CallerTest(unittest.TestCase):
    def test_it_is_what_is_left(self):
        for count in range(1, 13):
            for number in [*range(40), 9998, 9999]:
                with self.subTest(count=count, number=number):
                    house = caller(count, number)
                    self.assertIs(type(house), int)
                    self.assertIn(house, range(count))
                    self.assertEqual((number - house) // count * count + house, number)

    def test_some_callers_written_out(self):
        self.assertEqual([caller(4, number) for number in range(9)], [0, 1, 2, 3, 0, 1, 2, 3, 0])
        self.assertEqual([caller(3, number) for number in (3, 4, 5)], [0, 1, 2])
        self.assertEqual([caller(1, number) for number in (0, 1, 9999)], [0, 0, 0])
        self.assertEqual([caller(12, number) for number in (0, 11, 12, 9999)], [0, 11, 0, 3])
        self.assertEqual(caller(7, 9999), 3)


class WordTest(ThingsCase):
    def assert_word(self, count, thing, told):
        with self.subTest(count=count, thing=thing):
            self.assertIs(is_word(count, thing), told)

    def test_words_of_both_kinds(self):
        for count in range(1, 13):
            self.assert_word(count, ("say", 0, "tea", 0), True)
            self.assert_word(count, ("mark", 0, "tea", 0), True)
            self.assert_word(count, ("mark", 5, "abcdefgh", count - 1), True)
        self.assert_word(4, ("say", 3, "tea", 3), True)
        self.assert_word(3, ("say", 3, "tea", 0), True)

    def test_a_say_is_by_the_caller_alone(self):
        for count in range(1, 13):
            for number in (0, 1, 3, 12, 25, 9999):
                for house in range(-1, 14):
                    told = 0 <= house < count and house == number % count
                    self.assert_word(count, ("say", number, "tea", house), told)

    def test_a_mark_is_by_any_house_of_the_town(self):
        for count in range(1, 13):
            for number in (0, 1, 3, 12, 25, 9999):
                for house in range(-2, 15):
                    self.assert_word(count, ("mark", number, "tea", house), 0 <= house < count)

    def test_numbers_go_from_nought_to_9999(self):
        for count in range(1, 13):
            for number in (-10001, -2, -1, 0, 1, 9998, 9999, 10000, 10001, 10 ** 9, 10 ** 5000):
                told = 0 <= number <= 9999
                with self.subTest(count=count, told=told):
                    self.assertIs(is_word(count, ("say", number, "tea", number % count)), told)
                    self.assertIs(is_word(count, ("mark", number, "tea", 0)), told)

    def test_houses_far_off(self):
        for house in (-10 ** 9, -12, -4, 4, 12, 13, 10 ** 9, 10 ** 5000):
            for kind in ("say", "mark"):
                with self.subTest(kind=kind):
                    self.assertIs(is_word(4, (kind, 4, "tea", house)), False)

    def test_the_row_is_a_row(self):
        for kind in ("say", "mark"):
            for row in ROWS:
                self.assert_word(4, (kind, 6, row, 2), True)
            for row in NO_ROWS:
                self.assert_word(4, (kind, 6, row, 2), False)

    def test_the_kind_is_say_or_mark(self):
        for kind in ["", "Say", "SAY", "Mark", "say ", " say", "mark ", "says", "sa", "marks", "ma",
                     "tell", "tea", "by", "saymark", "say\n", "k", "s", "0"]:
            self.assert_word(4, (kind, 4, "tea", 0), False)

    def test_true_and_false_are_no_numbers(self):
        for kind in ("say", "mark"):
            self.assert_word(4, (kind, True, "tea", 1), False)
            self.assert_word(4, (kind, False, "tea", 0), False)
            self.assert_word(4, (kind, 1, "tea", True), False)
            self.assert_word(4, (kind, 0, "tea", False), False)
            self.assert_word(4, (kind, True, "tea", True), False)
            self.assert_word(1, (kind, False, "tea", False), False)

    def test_parts_of_another_kind(self):
        for kind in ("say", "mark"):
            for part in things_of_no_number():
                with self.handing(part):
                    self.assertIs(is_word(4, (kind, part, "tea", 0)), False)
                    self.assertIs(is_word(4, (kind, 4, "tea", part)), False)
            for part in things_of_no_text():
                with self.handing(part):
                    self.assertIs(is_word(4, (kind, 4, part, 0)), False)
        for part in things_of_no_text():
            with self.handing(part):
                self.assertIs(is_word(4, (part, 4, "tea", 0)), False)

    def test_all_parts_of_another_kind(self):
        for part in [Awkward(), Agreeing(), None, [], {}, ("say",), b"say", 4]:
            with self.handing(part):
                self.assertIs(is_word(4, (part, part, part, part)), False)

    def test_parts_left_out_or_added(self):
        for word in [("say", 4, "tea", 0), ("mark", 4, "tea", 1)]:
            for at in range(4):
                self.assert_word(4, word[:at] + word[at + 1:], False)
                self.assert_word(4, word[:at], False)
            for added in ["tea", 0, None, "by", ()]:
                for at in range(5):
                    self.assert_word(4, (*word[:at], added, *word[at:]), False)
            self.assert_word(4, word + word, False)
            self.assert_word(4, (word,), False)

    def test_parts_in_another_order(self):
        for word in [("say", 4, "tea", 0), ("mark", 2, "tea", 2)]:
            kind, number, row, house = word
            self.assert_word(4, (number, kind, row, house), False)
            self.assert_word(4, (kind, row, number, house), False)
            self.assert_word(4, (kind, number, house, row), False)
            self.assert_word(4, (row, number, kind, house), False)
            self.assert_word(4, (house, row, number, kind), False)

    def test_a_word_is_a_tuple(self):
        for word in [("say", 4, "tea", 0), ("mark", 2, "tea", 2)]:
            self.assert_word(4, list(word), False)
            self.assert_word(4, dict.fromkeys(word), False)
            self.assert_word(4, set(word), False)
            self.assert_word(4, f"{word[0]} {word[1]} {word[2]} by {word[3]}", False)

    def test_other_things_are_no_words(self):
        things = [*things_of_no_number(), *things_of_no_count(), 3, 4, "say", "mark", "tea", "abcd",
                  ["say", 4, "tea", 0], {"say": 4, "tea": 0, "a": 1, "b": 2}, range(4), (0, 1, 2, 3)]
        for thing in things:
            with self.handing(thing):
                self.assertIs(is_word(4, thing), False)

    def test_a_bad_count_is_refused_whatever_the_thing(self):
        for count in things_of_no_count():
            with self.handing(count):
                for thing in [("say", 0, "tea", 0), ("mark", 0, "tea", 0), None, [], "tea", 7, Awkward(),
                              ("say", 10000, "Tea", -1), ()]:
                    with self.assertRaises(BadCount):
                        is_word(count, thing)

    def test_what_is_handed_in_stays(self):
        for thing in [["say", 4, "tea", 0], ("say", [4], ["tea"], {0: 0}), {"say": 4}, [],
                      (["say"], 4, "tea", 0), ("say", 4, "tea", 0)]:
            with self.handing(thing):
                self.assert_unchanged(is_word, 4, thing)
                self.assert_unchanged(is_word, [4], thing)
                self.assert_unchanged(is_word, {"count": 4}, thing)


class UnlikeTest(unittest.TestCase):
    def assert_unlike(self, one, other, told):
        with self.subTest(one=one, other=other):
            self.assertIs(are_unlike(one, other), told)
            self.assertIs(are_unlike(other, one), told)

    def test_words_of_different_rows_alone(self):
        self.assert_unlike(("say", 3, "tea", 0), ("say", 3, "jam", 0), True)
        self.assert_unlike(("mark", 3, "tea", 2), ("mark", 3, "jam", 2), True)
        self.assert_unlike(("mark", 0, "tea", 0), ("mark", 0, "teas", 0), True)
        self.assert_unlike(("say", 9999, "a", 11), ("say", 9999, "b", 11), True)

    def test_like_words(self):
        for word in [("say", 3, "tea", 0), ("mark", 3, "tea", 0), ("mark", 9999, "abcdefgh", 11)]:
            self.assert_unlike(word, word, False)
            self.assert_unlike(word, tuple(list(word)), False)

    def test_words_that_differ_in_one_other_part(self):
        for row in ("tea", "jam"):
            self.assert_unlike(("mark", 3, "tea", 0), ("say", 3, row, 0), False)
            self.assert_unlike(("mark", 3, "tea", 0), ("mark", 4, row, 0), False)
            self.assert_unlike(("mark", 3, "tea", 0), ("mark", 3, row, 1), False)
            self.assert_unlike(("say", 0, "tea", 0), ("say", 4, row, 0), False)

    def test_words_that_differ_in_several_other_parts(self):
        for row in ("tea", "jam"):
            self.assert_unlike(("say", 3, "tea", 0), ("mark", 4, row, 0), False)
            self.assert_unlike(("say", 3, "tea", 0), ("mark", 3, row, 1), False)
            self.assert_unlike(("say", 3, "tea", 0), ("say", 4, row, 1), False)
            self.assert_unlike(("say", 3, "tea", 0), ("mark", 4, row, 1), False)

    def test_all_words_of_a_small_town(self):
        town = [(kind, number, row, house) for kind in ("say", "mark") for number in (0, 1, 2)
                for row in ("tea", "jam") for house in (0, 1)]
        for one in town:
            for other in town:
                told = one[2] != other[2] and one[:2] == other[:2] and one[3] == other[3]
                self.assert_unlike(one, other, told)


class NamesTest(unittest.TestCase):
    def test_they_are_defined_here_under_their_names(self):
        for name in ["is_row", "caller", "is_word", "are_unlike"]:
            with self.subTest(name=name):
                self.assertEqual(getattr(words, name).__name__, name)
                self.assertEqual(getattr(words, name).__module__, "latehouse.words")


if __name__ == "__main__":
    unittest.main()
