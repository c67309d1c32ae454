"""Point 2: how many houses may lie, are enough, and are shared."""

import unittest
from itertools import combinations

from latehouse import counts
from latehouse.counts import MOST_HOUSES, enough, most_liars, shared
from latehouse.errors import (
    BadCount, BadHouse, BadRow, BadWord, Forged, HouseError, NoLetter, NotWritten, NoText,
)
from tests.things import ThingsCase, things_of_no_count

FUNCTIONS = [most_liars, enough, shared]
OTHER_REFUSALS = (BadHouse, BadRow, BadWord, Forged, NoLetter, NotWritten, NoText)


def reckoned_liars(count):
    """The greatest whole number that is less than a third of so many houses."""
    return max(number for number in range(count) if 3 * number < count)


def fewest_shared(count, size):
    """How many houses any two sets of a size share at the least, by trying all of them."""
    sets = [sum(1 << house for house in some) for some in combinations(range(count), size)]
    return min((one & other).bit_count() for one in sets for other in sets)


def reckoned_enough(count):
    """The least number with which any two sets of so many share more than the most liars."""
    sizes = range(count + 1)
    return next(size for size in sizes if fewest_shared(count, size) > reckoned_liars(count))


class CountsTest(unittest.TestCase):
    def test_a_town_has_at_most_twelve_houses(self):
        self.assertEqual(MOST_HOUSES, 12)
        self.assertIs(type(MOST_HOUSES), int)

    def test_most_liars_against_the_sentence(self):
        for count in range(1, 13):
            with self.subTest(count=count):
                self.assertEqual(most_liars(count), reckoned_liars(count))

    def test_enough_and_shared_against_the_sentences(self):
        for count in range(1, 13):
            with self.subTest(count=count):
                size = reckoned_enough(count)
                self.assertEqual(enough(count), size)
                self.assertEqual(shared(count), fewest_shared(count, size))

    def test_the_numbers_written_out(self):
        houses = range(1, 13)
        self.assertEqual([most_liars(count) for count in houses], [0, 0, 0, 1, 1, 1, 2, 2, 2, 3, 3, 3])
        self.assertEqual([enough(count) for count in houses], [1, 2, 2, 3, 4, 4, 5, 6, 6, 7, 8, 8])
        self.assertEqual([shared(count) for count in houses], [1, 2, 1, 2, 3, 2, 3, 4, 3, 4, 5, 4])

    def test_they_are_whole_numbers(self):
        for function in FUNCTIONS:
            for count in range(1, 13):
                with self.subTest(function=function.__name__, count=count):
                    self.assertIs(type(function(count)), int)

    def test_they_are_defined_here_under_their_names(self):
        for name in ["most_liars", "enough", "shared"]:
            with self.subTest(name=name):
                self.assertEqual(getattr(counts, name).__name__, name)
                self.assertEqual(getattr(counts, name).__module__, "latehouse.counts")


class BadCountTest(ThingsCase):
    def test_what_is_no_number_of_houses_is_refused(self):
        for function in FUNCTIONS:
            for thing in things_of_no_count():
                with self.handing(thing):
                    with self.assertRaises(BadCount) as refused:
                        function(thing)
                    self.assertIsInstance(refused.exception, HouseError)
                    self.assertIsInstance(refused.exception, ValueError)
                    self.assertNotIsInstance(refused.exception, OTHER_REFUSALS)

    def test_what_is_handed_in_stays(self):
        for function in FUNCTIONS:
            for thing in [[4], [], ["tea"], {"count": 4}, {}, {4}, ([4], {})]:
                with self.handing(thing):
                    self.assert_unchanged(function, thing)


if __name__ == "__main__":
    unittest.main()
