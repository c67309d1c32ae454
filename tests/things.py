"""Things of many kinds that the tests hand in, and how they tell that one was changed."""

import copy
import unittest

from latehouse.errors import HouseError

# Texts that are no rows.
NO_ROWS = [
    "", "abcdefghi", "zzzzzzzzz", "a" * 10, "a" * 1000,
    "Tea", "tEa", "teA", "TEA", "A", "Z", "t3a", "3", "tea3", "3tea", "0", "9",
    " ", "te a", " tea", "tea ", "\ttea", "tea\t", "te\ta", "tea\n", "\ntea", "te\na", "\n",
    "te-a", "tea.", "tea_", "_", "`", "{", "@", "[", "~", "'tea'",
    "caf\u00e9", "\u00e9", "\u00df", "\u0430", "\uff41", "\u00aa", "te\u0000", "\u03b1", "\U0001d41a",
]


class Awkward:
    """A thing that fails whenever it is asked anything about itself."""

    def _fail(self, *told):
        raise RuntimeError("an awkward thing was asked")

    __eq__ = __ne__ = __lt__ = __le__ = __gt__ = __ge__ = _fail
    __len__ = __bool__ = __iter__ = __hash__ = __str__ = __repr__ = _fail
    __getitem__ = __contains__ = __index__ = __int__ = __mod__ = __rmod__ = _fail
    __add__ = __radd__ = __sub__ = __rsub__ = __mul__ = __rmul__ = _fail


class Agreeing:
    """A thing that says of everything that it is the same, and of any order that it holds."""

    def _agree(self, other):
        return True

    __eq__ = __lt__ = __le__ = __gt__ = __ge__ = __contains__ = _agree
    __hash__ = None


def things_of_no_number():
    """New things of many kinds, none of them a whole number."""
    return [
        True, False, None, "", "4", "tea", b"", b"4", 4.0, 0.0, 3.5, float("nan"), float("inf"),
        4 + 0j, [], [4], (), (4,), {}, {4: 4}, {4}, frozenset([4]), range(4), object(), int, len,
        Awkward(), Agreeing(),
    ]


def things_of_no_count():
    """New things of many kinds, none of them a number of houses."""
    return [0, 13, 14, 24, -1, -2, -4, -12, 10 ** 6, -10 ** 6, 10 ** 5000, -10 ** 5000,
            *things_of_no_number()]


def things_of_no_text():
    """New things of many kinds, none of them a text."""
    return [
        None, True, False, 0, 1, 3, -1, 10 ** 30, 4.0, b"", b"tea", b"say 3 tea by 0",
        [], ["tea"], ["t", "e", "a"], ["say", "3", "tea", "by", "0"], ["say 3 tea by 0"],
        (), ("tea",), ("say", 3, "tea", 0), ("mark", 3, "tea", 0), ("say 3 tea by 0",),
        {}, {"tea": 1}, {"say": 3}, {"t", "e"}, object(), str, Awkward(), Agreeing(),
    ]


class ThingsCase(unittest.TestCase):
    """A test that hands in things of any kind."""

    def handing(self, thing):
        """Return a subtest that tells the kind of a thing, and never asks how it looks."""
        return self.subTest(kind=thing.__class__.__name__)

    def assert_refused(self, refusal, call, *handed):
        """See that a call is refused with just this class."""
        with self.assertRaises(refusal) as refused:
            call(*handed)
        self.assertIs(type(refused.exception), refusal)
        self.assertIsInstance(refused.exception, HouseError)
        self.assertIsInstance(refused.exception, ValueError)

    def assert_unchanged(self, call, *handed):
        """Call with what is handed in, whatever comes of it, and see that it stays as it was."""
        before = copy.deepcopy(handed)
        try:
            call(*handed)
        except ValueError:
            pass
        self.assertEqual(handed, before)
