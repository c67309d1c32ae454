"""Point 8: letters, their numbers, and how they wait."""

import copy
import unittest

from latehouse import post as post_file
from latehouse.errors import NoLetter
from latehouse.post import Post
from tests.model import Draws
from tests.things import ThingsCase, things_of_no_number

LETTERS = [
    (0, 1, ("say", 0, "tea", 0)), (2, 0, ("mark", 0, "tea", 2)), (0, 1, ("say", 0, "tea", 0)),
    (), (None,), (1, "tea", None), ((), ((), (None, 3))), ("a", ("b", ("c", ("d",)))), (), (10 ** 30, -1),
]


class PostCase(ThingsCase):
    def assert_no_letter(self, post, number):
        self.assert_refused(NoLetter, post.bring, number)

    def full_post(self):
        post = Post()
        for letter in LETTERS:
            post.send(letter)
        return post


class PostTest(PostCase):
    def test_numbers_rise_by_one_also_of_like_letters(self):
        post = Post()
        for number, letter in enumerate(LETTERS):
            told = post.send(letter)
            self.assertEqual(told, number)
            self.assertIs(type(told), int)

    def test_numbers_are_never_given_again(self):
        post = Post()
        for number in range(20):
            self.assertEqual(post.send(("tea",)), number)
            self.assertEqual(post.bring(number), ("tea",))
            self.assert_no_letter(post, number)
        self.assertEqual(post.send(()), 20)

    def test_letters_brought_in_any_order(self):
        draws = Draws(8)
        numbers = range(len(LETTERS))
        for order in [numbers, numbers[::-1], *[draws.turned(numbers) for _ in range(20)]]:
            post = self.full_post()
            left = list(enumerate(LETTERS))
            for number in order:
                self.assertEqual(post.bring(number), LETTERS[number])
                left.remove((number, LETTERS[number]))
                self.assertEqual(post.waiting(), left)
                self.assert_no_letter(post, number)
                self.assertEqual(post.waiting(), left)

    def test_waiting_rises_by_numbers(self):
        post = self.full_post()
        for number in (7, 0, 3):
            post.bring(number)
        post.send(("late",))
        told = post.waiting()
        self.assertEqual([number for number, _ in told], [1, 2, 4, 5, 6, 8, 9, 10])
        self.assertEqual(told, [(number, [*LETTERS, ("late",)][number]) for number, _ in told])
        self.assertIs(type(told), list)
        self.assertTrue(all(type(pair) is tuple for pair in told))

    def test_an_empty_post(self):
        self.assertEqual(Post().waiting(), [])
        self.assert_no_letter(Post(), 0)

    def test_no_letter_of_that_number(self):
        post = self.full_post()
        post.bring(4)
        things = [4, len(LETTERS), len(LETTERS) + 1, -1, -len(LETTERS), 10 ** 5000, -10 ** 5000,
                  *things_of_no_number(), 0.0, 1.0, "0", "1", b"1", [0], [1], (1,), {0: 0}, {1}, [[]], ([],), LETTERS[0]]
        waiting = post.waiting()
        for thing in things:
            with self.handing(thing):
                self.assert_no_letter(post, thing)
                self.assertEqual(post.waiting(), waiting)
        self.assertEqual(post.send(("tea",)), len(LETTERS))
        self.assertEqual([post.bring(0), post.bring(1)], LETTERS[:2])

    def test_two_posts_do_not_touch_each_other(self):
        one, other = self.full_post(), Post()
        self.assertEqual(other.waiting(), [])
        self.assertEqual(other.send(("other",)), 0)
        one.bring(0)
        self.assertEqual(other.waiting(), [(0, ("other",))])
        self.assertEqual(other.bring(0), ("other",))
        self.assertEqual(one.waiting(), list(enumerate(LETTERS))[1:])

    def test_what_is_told_is_the_askers_own(self):
        post = self.full_post()
        told = post.waiting()
        kept = copy.deepcopy(told)
        post.bring(0)
        post.send(("tea",))
        self.assertEqual(told, kept)
        told = post.waiting()
        told.reverse()
        told.append((99, ("jam",)))
        self.assert_no_letter(post, 99)
        post.waiting().clear()
        self.assertEqual(post.waiting(), [*kept[1:], (len(LETTERS), ("tea",))])

    def test_what_is_handed_in_stays(self):
        post = self.full_post()
        for thing in [[0], {0: 0}, [], {}, ([],)]:
            self.assert_unchanged(post.bring, thing)

    def test_the_class_is_defined_here_with_its_methods(self):
        self.assertEqual(post_file.Post.__module__, "latehouse.post")
        for name in ["send", "bring", "waiting"]:
            self.assertIn(name, vars(Post))


if __name__ == "__main__":
    unittest.main()
