"""Point 5: backings, and who is to blame for unlike words."""

import copy
import unittest
from itertools import combinations

from latehouse import judge
from latehouse.errors import BadCount
from latehouse.judge import blamed, is_backing
from tests.model import ENOUGH, SHARED, Draws, mark, marks, say, unlike
from tests.things import (
    Agreeing, Awkward, ThingsCase, things_of_no_count, things_of_no_number, things_of_no_text,
)

COUNTS = range(1, 13)


def full(count, number=7, row="tea"):
    """Marks of just enough houses, the last ones of the town."""
    return marks(number, row, range(count - ENOUGH[count], count))


class BackingTest(ThingsCase):
    def assert_backing(self, told, count, words, number=7, row="tea"):
        with self.subTest(count=count, words=words, number=number, row=row):
            before = copy.deepcopy(words)
            self.assertIs(is_backing(count, number, row, words), told)
            self.assertEqual(words, before)

    def test_enough_marks_in_any_order(self):
        draws = Draws(5)
        for count in COUNTS:
            for size in range(count + 1):
                for turn in range(6):
                    words = marks(7, "tea", draws.some_of(range(count), size))
                    self.assert_backing(size >= ENOUGH[count], count, words)

    def test_one_more_and_one_less_of_the_first_and_the_last_houses(self):
        for count in COUNTS:
            for size in (ENOUGH[count] - 1, ENOUGH[count], min(ENOUGH[count] + 1, count), count):
                for words in (marks(7, "tea", range(size)), marks(7, "tea", range(count - size, count))):
                    self.assert_backing(size >= ENOUGH[count], count, words)
                    self.assert_backing(size >= ENOUGH[count], count, words[::-1])

    def test_each_number_and_row(self):
        for number in (0, 1, 2, 9998, 9999):
            for row in ("a", "tea", "abcdefgh", "say", "mark"):
                for count in COUNTS:
                    self.assert_backing(True, count, full(count, number, row), number, row)

    def test_one_told_twice(self):
        for count in COUNTS:
            words = full(count)
            for word in words:
                self.assert_backing(False, count, [*words, word])
                self.assert_backing(False, count, [word, *words])
            for at in range(1, len(words)):
                self.assert_backing(False, count, words[:at] + [words[0]] + words[at + 1:])

    def test_one_of_another_kind_row_number_or_house(self):
        for count in COUNTS:
            words = full(count)
            for at, word in enumerate(words):
                house = word[3]
                others = [
                    mark(7, "jam", house), mark(7, "teas", house), mark(6, "tea", house), mark(8, "tea", house),
                    mark(7 + count, "tea", house), say(7, "tea", house), say(7, "tea", 7 % count),
                    ("tell", 7, "tea", house), ("", 7, "tea", house), mark(7, "tea", count),
                    mark(7, "tea", count + 1), mark(7, "tea", 12), mark(7, "tea", -1), mark(7, "tea", house - count),
                    mark(7, "Tea", house), mark(7, "", house), mark(-7, "tea", house), mark(10000, "tea", house),
                    list(word), word[:3], (*word, 0), (word,), "mark 7 tea by 0", None, True, 7, [], {}, (),
                ]
                for other in others:
                    self.assert_backing(False, count, words[:at] + [other] + words[at + 1:])

    def test_something_else_beside_enough(self):
        for count in COUNTS:
            words = full(count)
            for other in [say(7, "tea", 7 % count), mark(7, "jam", 0), mark(8, "tea", 0), mark(7, "tea", count),
                          mark(7, "tea", -1), None, True, 0, "tea", [], {}, (), words[0][:3]]:
                for at in (0, len(words) // 2, len(words)):
                    self.assert_backing(False, count, words[:at] + [other] + words[at:])

    def test_true_and_false_in_the_place_of_numbers(self):
        for count in COUNTS:
            for number in (0, 1):
                words = marks(number, "tea", range(count))
                self.assert_backing(True, count, words, number)
                self.assert_backing(False, count, words, bool(number))
                for at in range(count):
                    odd = ("mark", bool(number), "tea", at)
                    self.assert_backing(False, count, words[:at] + [odd] + words[at + 1:], number)
                for at in range(min(count, 2)):
                    odd = ("mark", number, "tea", bool(at))
                    self.assert_backing(False, count, words[:at] + [odd] + words[at + 1:], number)
        self.assert_backing(False, 1, [("mark", False, "tea", 0)], False)

    def assert_never_backing(self, odd):
        words = full(4)
        for handed in ([odd], [odd, *words[1:]], [*words[:2], odd], [*words, odd]):
            self.assertIs(is_backing(4, 7, "tea", handed), False)

    def test_parts_and_words_of_any_kind(self):
        for thing in things_of_no_number():
            with self.handing(thing):
                self.assert_never_backing(("mark", thing, "tea", 0))
                self.assert_never_backing(("mark", 7, "tea", thing))
        for thing in things_of_no_text():
            with self.handing(thing):
                self.assert_never_backing(("mark", 7, thing, 0))
                self.assert_never_backing((thing, 7, "tea", 0))
        for thing in [*things_of_no_text(), *things_of_no_number()]:
            with self.handing(thing):
                self.assert_never_backing(thing)
                self.assert_never_backing([thing])
                self.assert_never_backing((thing, thing, thing, thing))

    def test_what_is_no_list(self):
        for count in COUNTS:
            words = full(count)
            for thing in [tuple(words), dict.fromkeys(words), set(words), dict(enumerate(words)), iter(words),
                          words[0], (words,), None, 7, True, "tea", "mark 7 tea by 0", {}, ()]:
                with self.handing(thing):
                    self.assertIs(is_backing(count, 7, "tea", thing), False)
        for thing in [*things_of_no_text(), *things_of_no_number(), [[]], [full(4)], []]:
            with self.handing(thing):
                self.assertIs(is_backing(4, 7, "tea", thing), False)

    def test_another_number_or_row_is_asked_for(self):
        for count in COUNTS:
            words = full(count)
            for number in (0, 6, 8, 7 + count, 9999, 10000, -7, -1, 10 ** 5000):
                with self.subTest(count=count):
                    self.assertIs(is_backing(count, number, "tea", words), False)
            for row in ("jam", "te", "teas", "Tea", "", "tea ", "teateatea"):
                self.assert_backing(False, count, words, 7, row)

    def test_no_number_and_no_row_are_asked_for(self):
        for count in (1, 4):
            words = full(count)
            for thing in [*things_of_no_number(), 7.0, "7", [7], (7,)]:
                with self.handing(thing):
                    self.assertIs(is_backing(count, thing, "tea", words), False)
                    self.assertIs(is_backing(count, thing, "tea", []), False)
            for thing in things_of_no_text():
                with self.handing(thing):
                    self.assertIs(is_backing(count, 7, thing, words), False)
                    self.assertIs(is_backing(count, thing, thing, thing), False)

    def test_marks_that_are_none_are_no_backing_of_what_is_none(self):
        for number, row in [(10000, "tea"), (-1, "tea"), (7, "Tea"), (7, ""), (7, "abcdefghi"), (True, "tea"),
                            (7.0, "tea"), (None, "tea"), (7, None), ("7", "tea")]:
            self.assert_backing(False, 4, marks(number, row, range(4)), number, row)

    def test_a_bad_count_is_refused_whatever_else_is_handed_in(self):
        for count in things_of_no_count():
            with self.handing(count):
                for rest in [(7, "tea", full(4)), (7, "tea", None), (None, None, None), (True, "", ()),
                             (Awkward(), Awkward(), Awkward()), ([], {}, [None])]:
                    self.assert_refused(BadCount, is_backing, count, *rest)

    def test_what_is_handed_in_stays(self):
        for words in [full(4), [], [["mark", 7, "tea", 0]], {"mark": 7}, [None, [], {}]]:
            self.assert_unchanged(is_backing, 4, 7, "tea", words)
            self.assert_unchanged(is_backing, [4], [7], ["tea"], words)


def looked_up(ones, others):
    """Who is to blame, by the words of the interface."""
    told = []
    for house in range(13):
        pairs = [(house, one, other) for one in ones for other in others if one[3] == house and unlike(one, other)]
        told.extend(pairs[:1])
    return told


class BlamedTest(unittest.TestCase):
    def assert_blamed(self, ones, others, told):
        with self.subTest(ones=ones, others=others):
            before = list(ones), list(others)
            found = blamed(ones, others)
            self.assertEqual(found, told)
            self.assertIs(type(found), list)
            self.assertTrue(all(type(blame) is tuple for blame in found))
            self.assertEqual((ones, others), before)

    def test_one_house(self):
        tea, jam = mark(3, "tea", 2), mark(3, "jam", 2)
        self.assert_blamed([tea], [jam], [(2, tea, jam)])
        self.assert_blamed([jam], [tea], [(2, jam, tea)])
        self.assert_blamed([say(2, "tea", 2)], [say(2, "jam", 2)], [(2, say(2, "tea", 2), say(2, "jam", 2))])

    def test_nobody(self):
        tea = mark(3, "tea", 2)
        self.assert_blamed([], [], [])
        self.assert_blamed([tea], [], [])
        self.assert_blamed([], [tea], [])
        self.assert_blamed([tea], [tea], [])
        self.assert_blamed([tea, mark(3, "jam", 2)], [], [])
        self.assert_blamed([tea], [say(3, "jam", 2)], [])
        self.assert_blamed([tea], [mark(4, "jam", 2)], [])
        self.assert_blamed([tea], [mark(3, "jam", 1)], [])
        # Unlike words in one list alone are nobody's blame.
        self.assert_blamed([mark(3, "jam", 1), mark(3, "tea", 1)], [mark(3, "jam", 2)], [])

    def test_the_earliest_of_the_first_and_then_of_the_second(self):
        ones = [mark(5, "tea", 1), mark(3, "tea", 1), mark(3, "jam", 1), mark(3, "bun", 1)]
        others = [mark(3, "tea", 1), mark(3, "bun", 1), mark(3, "egg", 1)]
        self.assert_blamed(ones, others, [(1, mark(3, "tea", 1), mark(3, "bun", 1))])
        self.assert_blamed(ones[::-1], others, [(1, mark(3, "bun", 1), mark(3, "tea", 1))])
        self.assert_blamed(ones, others[::-1], [(1, mark(3, "tea", 1), mark(3, "egg", 1))])
        self.assert_blamed(others, ones, [(1, mark(3, "tea", 1), mark(3, "jam", 1))])

    def test_the_first_list_is_ahead_of_the_second(self):
        # The earliest of the second list is unlike a later one of the first.
        ones = [mark(4, "tea", 1), mark(3, "tea", 1)]
        others = [mark(3, "jam", 1), mark(4, "jam", 1)]
        self.assert_blamed(ones, others, [(1, mark(4, "tea", 1), mark(4, "jam", 1))])

    def test_the_same_words_in_both(self):
        words = [mark(3, "tea", 1), mark(3, "jam", 1), mark(3, "tea", 0)]
        self.assert_blamed(words, words, [(1, mark(3, "tea", 1), mark(3, "jam", 1))])
        self.assert_blamed(words, list(words), [(1, mark(3, "tea", 1), mark(3, "jam", 1))])
        self.assert_blamed([words[0]] * 3, [words[0]] * 2 + [words[1]] * 2, [(1, words[0], words[1])])

    def test_words_of_both_kinds(self):
        ones = [say(1, "tea", 1), mark(1, "tea", 1)]
        others = [mark(1, "jam", 1), say(1, "jam", 1)]
        self.assert_blamed(ones, others, [(1, say(1, "tea", 1), say(1, "jam", 1))])
        self.assert_blamed(others, ones, [(1, mark(1, "jam", 1), mark(1, "tea", 1))])

    def test_houses_rise_each_once(self):
        ones = marks(3, "tea", [7, 2, 11, 0, 10]) + marks(4, "tea", [0, 1, 2])
        others = marks(4, "jam", [2, 1, 0, 3]) + marks(3, "jam", [10, 0, 7, 4, 2])
        self.assert_blamed(ones, others, [
            (0, mark(3, "tea", 0), mark(3, "jam", 0)), (1, mark(4, "tea", 1), mark(4, "jam", 1)),
            (2, mark(3, "tea", 2), mark(3, "jam", 2)), (7, mark(3, "tea", 7), mark(3, "jam", 7)),
            (10, mark(3, "tea", 10), mark(3, "jam", 10))])

    def test_drawn_lists(self):
        draws = Draws(55)
        for turn in range(300):
            town = [(kind, number, row, house) for kind in ("say", "mark") for number in (0, 12)
                    for row in ("tea", "jam", "bun") for house in (0, 3, 11) if kind == "mark" or house == 0]
            ones = [draws.one_of(town) for _ in range(draws.below(12))]
            others = [draws.one_of(town) for _ in range(draws.below(12))]
            self.assert_blamed(ones, others, looked_up(ones, others))

    def test_two_backings_of_different_rows(self):
        for count in COUNTS:
            size = ENOUGH[count]
            first = marks(5, "tea", range(size))
            self.assertIs(is_backing(count, 5, "tea", first), True)
            fewest = count
            for houses in combinations(range(count), size):
                second = marks(5, "jam", houses)[::-1]
                self.assertIs(is_backing(count, 5, "jam", second), True)
                both = [house for house in houses if house < size]
                told = [(house, mark(5, "tea", house), mark(5, "jam", house)) for house in both]
                self.assertEqual(blamed(first, second), told)
                self.assertGreaterEqual(len(told), SHARED[count])
                fewest = min(fewest, len(told))
            self.assertEqual(fewest, SHARED[count])

    def test_what_is_told_is_the_askers_own(self):
        ones, others = marks(3, "tea", [0, 1]), marks(3, "jam", [0, 1])
        found = blamed(ones, others)
        kept = list(found)
        found.clear()
        self.assertEqual(blamed(ones, others), kept)
        found = blamed(ones, others)
        ones.clear()
        others.clear()
        self.assertEqual(found, kept)


class NamesTest(unittest.TestCase):
    def test_they_are_defined_here_under_their_names(self):
        for name in ["is_backing", "blamed"]:
            with self.subTest(name=name):
                self.assertEqual(getattr(judge, name).__name__, name)
                self.assertEqual(getattr(judge, name).__module__, "latehouse.judge")


if __name__ == "__main__":
    unittest.main()
