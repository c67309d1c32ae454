"""Point 4: words written as texts, and read from them."""

import unittest

from latehouse import notes
from latehouse.errors import (
    BadCount, BadHouse, BadRow, BadWord, Forged, HouseError, NoLetter, NotWritten, NoText,
)
from latehouse.notes import read, shown
from tests.things import ThingsCase, things_of_no_count, things_of_no_text

WRITTEN = [
    (3, ("say", 3, "tea", 0), "say 3 tea by 0"),
    (4, ("mark", 3, "tea", 0), "mark 3 tea by 0"),
    (1, ("say", 0, "a", 0), "say 0 a by 0"),
    (1, ("mark", 9999, "z", 0), "mark 9999 z by 0"),
    (12, ("say", 9999, "abcdefgh", 3), "say 9999 abcdefgh by 3"),
    (12, ("mark", 10, "teapot", 11), "mark 10 teapot by 11"),
    (12, ("say", 130, "say", 10), "say 130 say by 10"),
    (12, ("mark", 1000, "by", 10), "mark 1000 by by 10"),
    (7, ("mark", 100, "mark", 6), "mark 100 mark by 6"),
]


class ShownTest(unittest.TestCase):
    def test_the_text_letter_by_letter(self):
        for _, word, text in WRITTEN:
            with self.subTest(word=word):
                self.assertEqual(shown(word), text)
                self.assertIs(type(shown(word)), str)


class ReadTest(unittest.TestCase):
    def test_the_word_of_a_text(self):
        for count, word, text in WRITTEN:
            with self.subTest(text=text):
                self.assertEqual(read(count, text), word)
                self.assertEqual([type(part) for part in read(count, text)], [str, int, str, int])
                self.assertIs(type(read(count, text)), tuple)

    def test_each_kind_of_word_there_and_back(self):
        for count in range(1, 13):
            for number in [*range(30), 99, 100, 101, 110, 999, 1000, 1001, 9990, 9998, 9999]:
                for row in ("a", "tea", "by", "say", "abcdefgh"):
                    said = ("say", number, row, number % count)
                    marks = [("mark", number, row, house) for house in range(count)]
                    for word in [said, *marks]:
                        self.assertEqual(read(count, shown(word)), word)

    def test_each_number_there_and_back(self):
        for number in range(10000):
            word = ("mark", number, "tea", 2)
            self.assertEqual(shown(word), f"mark {number} tea by 2")
            self.assertEqual(read(3, shown(word)), word)


class NoTextTest(ThingsCase):
    def assert_no_text(self, count, text):
        with self.assertRaises(NoText) as refused:
            read(count, text)
        self.assertIsInstance(refused.exception, HouseError)
        self.assertNotIsInstance(
            refused.exception, (BadCount, BadHouse, BadRow, BadWord, Forged, NoLetter, NotWritten))

    def assert_no_texts(self, count, texts):
        for text in texts:
            with self.subTest(count=count, text=text):
                self.assert_no_text(count, text)

    def test_blanks_line_ends_and_tabs_at_either_end(self):
        for count, _, text in WRITTEN:
            for sign in (" ", "\n", "\t", "  ", "\n\n"):
                self.assert_no_texts(count, [sign + text, text + sign, sign + text + sign])

    def test_other_signs_in_the_place_of_a_blank(self):
        for count, _, text in WRITTEN:
            places = [at for at in range(len(text)) if text[at] == " "]
            self.assertEqual(len(places), 4)
            for at in places:
                for sign in ("  ", "   ", "\n", "\t", " \n", "\n ", " \t", "\t ", "", ",", "_", "-", "."):
                    self.assert_no_texts(count, [text[:at] + sign + text[at + 1:]])

    def test_other_signs_at_any_place(self):
        for count, _, text in WRITTEN:
            for at in range(len(text) + 1):
                for sign in " \n\tA~!+-_":
                    self.assert_no_texts(count, [text[:at] + sign + text[at:]])

    def test_a_part_left_out(self):
        for count, _, text in WRITTEN:
            parts = text.split(" ")
            for at in range(5):
                self.assert_no_texts(count, [
                    " ".join(parts[:at] + parts[at + 1:]),
                    " ".join(parts[:at] + [""] + parts[at + 1:]),
                    " ".join(parts[:at]),
                ])

    def test_a_part_told_twice_or_added(self):
        for count, _, text in WRITTEN:
            parts = text.split(" ")
            for at in range(5):
                self.assert_no_texts(count, [" ".join(parts[:at + 1] + parts[at:])])
            for at in range(6):
                for added in ("by", "0", "tea", ""):
                    self.assert_no_texts(count, [" ".join(parts[:at] + [added] + parts[at:])])
            self.assert_no_texts(count, [text + " " + text, text + "\n" + text, text + text])

    def test_a_part_exchanged_with_the_next(self):
        for text in ("say 3 tea by 0", "mark 3 tea by 0", "mark 1 tea by 1", "say 0 jam by 0"):
            parts = text.split(" ")
            for at in range(4):
                turned = parts[:at] + [parts[at + 1], parts[at]] + parts[at + 2:]
                self.assert_no_texts(3, [" ".join(turned)])

    def test_numbers_in_another_form(self):
        forms = ["00", "03", "003", "0003", "+3", "-3", "+0", "-0", "3.", "3.0", ".3", "3e0", "0x3", "3_0",
                 "_3", "3_", "(3)", "'3'", "three", "a", "", "+", "-", "3,0", "- 3", "True", "None", "O"]
        for form in forms:
            self.assert_no_texts(12, [
                f"say {form} tea by 3", f"say {form} tea by 0",
                f"mark {form} tea by 3", f"mark {form} tea by 0",
                f"say 3 tea by {form}", f"say 0 tea by {form}", f"mark 3 tea by {form}",
            ])

    def test_a_nought_or_a_sign_ahead_of_a_number(self):
        for count, word, _ in WRITTEN:
            kind, number, row, house = word
            for ahead in ("0", "00", "+", "-"):
                self.assert_no_texts(count, [
                    f"{kind} {ahead}{number} {row} by {house}", f"{kind} {number} {row} by {ahead}{house}"])

    def test_numbers_and_houses_too_great(self):
        self.assert_no_texts(1, ["say 10000 tea by 0", "mark 10000 tea by 0", "mark 99999 tea by 0"])
        self.assert_no_texts(4, ["say 10000 tea by 0", "mark 12345 tea by 3", "mark 3 tea by 4"])
        for count in range(1, 13):
            self.assert_no_texts(count, [f"mark 3 tea by {count}", f"mark 3 tea by {count + 1}",
                                         "mark 3 tea by 12", "mark 3 tea by 13", "mark 3 tea by 100"])

    def test_numbers_of_very_many_figures(self):
        for many in (10, 100, 5000, 20000):
            figures = "1" * many
            with self.subTest(many=many):
                self.assert_no_text(12, f"mark {figures} tea by 0")
                self.assert_no_text(12, f"mark 3 tea by {figures}")
                self.assert_no_text(12, f"mark {'0' * many} tea by 0")
                self.assert_no_text(12, f"mark 3 tea by {'0' * many}")

    def test_a_say_by_a_house_that_is_not_the_caller(self):
        for count in range(1, 13):
            for number in (0, 1, 3, 12, 9999):
                for house in range(count):
                    text = f"say {number} tea by {house}"
                    if house == number % count:
                        self.assertEqual(read(count, text), ("say", number, "tea", house))
                    else:
                        self.assert_no_texts(count, [text])

    def test_rows_that_are_none(self):
        for row in ["abcdefghi", "Tea", "TEA", "t3a", "3", "te-a", "te_a", "tea.", "`", "{", "@", "["]:
            self.assert_no_texts(4, [f"say 4 {row} by 0", f"mark 4 {row} by 0"])

    def test_kinds_that_are_none(self):
        for kind in ["Say", "SAY", "Mark", "says", "sa", "marks", "mar", "tell", "by", "tea", "4", "saymark"]:
            self.assert_no_texts(4, [f"{kind} 4 tea by 0"])

    def test_other_words_in_the_place_of_by(self):
        for word in ["By", "BY", "bye", "b", "y", "of", "say", "mark", "tea", "0", "by,", "b y"]:
            self.assert_no_texts(4, [f"say 4 tea {word} 0", f"mark 4 tea {word} 0"])

    def test_other_texts(self):
        self.assert_no_texts(4, [
            "", " ", "    ", "\n", "\t", "tea", "say", "say 4 tea", "say 4 tea by", "say 4 tea by ", "by",
            "('say', 4, 'tea', 0)", "say,4,tea,0", "say, 4, tea, by, 0", "SAY 4 TEA BY 0", "x" * 10000,
            "0 by tea 4 say", "say 4 tea by 0;", '"say 4 tea by 0"', "say\n4\ntea\nby\n0", "say4teaby0",
        ])

    def test_what_is_no_text(self):
        for thing in things_of_no_text():
            with self.handing(thing):
                self.assert_no_text(4, thing)

    def test_a_bad_count_is_refused_ahead_of_a_bad_text(self):
        for count in things_of_no_count():
            with self.handing(count):
                for text in ["say 0 tea by 0", "mark 0 tea by 0", "", "tea", "say 0 tea by 1", None, 4, [], b""]:
                    with self.assertRaises(BadCount):
                        read(count, text)


class NotesTest(ThingsCase):
    def test_what_is_handed_in_stays(self):
        for text in [["say", "3", "tea", "by", "0"], {"say": 3}, ([],), [], {}, ("say", [3])]:
            with self.handing(text):
                self.assert_unchanged(read, 4, text)
                self.assert_unchanged(read, [4], text)
                self.assert_unchanged(read, {"count": 4}, text)

    def test_they_are_defined_here_under_their_names(self):
        for name in ["shown", "read"]:
            with self.subTest(name=name):
                self.assertEqual(getattr(notes, name).__name__, name)
                self.assertEqual(getattr(notes, name).__module__, "latehouse.notes")


if __name__ == "__main__":
    unittest.main()
