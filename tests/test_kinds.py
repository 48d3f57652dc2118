import unittest

from tests.bending import OTHERS, bent
from tonguehouse.kinds import (
    are_rising, are_unlike, is_just, is_name, is_number, is_text, is_tuple, is_tuple_of, is_word,
)


class Kinds(unittest.TestCase):
    def test_numbers_are_whole_and_no_truths(self):
        for thing in (0, 1, 7, 10 ** 12):
            self.assertIs(is_number(thing), True)
        for thing in (True, False, None, "1", (1,), [1], {}, -1, 10 ** 12 + 1, 10 ** 39):
            self.assertIs(is_number(thing), False)

    def test_numbers_between_told_bounds(self):
        self.assertTrue(is_number(2, 2, 60))
        self.assertTrue(is_number(60, 2, 60))
        self.assertFalse(is_number(1, 2, 60))
        self.assertFalse(is_number(61, 2, 60))

    def test_texts_have_signs_from_the_blank_to_the_tilde_without_number_37(self):
        for number in range(32, 127):
            self.assertIs(is_text(chr(number)), number != 37)
        for thing in ("\n", "\t", "a\nb", "\x7f", "\xe9", "\u2028", None, True, 5, ("a",), ["a"], {"a": "b"}):
            self.assertIs(is_text(thing), False)

    def test_texts_have_at_most_200_signs_or_the_told_bound(self):
        self.assertTrue(is_text(""))
        self.assertTrue(is_text("a" * 200))
        self.assertFalse(is_text("a" * 201))
        self.assertFalse(is_text("", 1, 12))
        self.assertTrue(is_text("a" * 12, 1, 12))
        self.assertFalse(is_text("a" * 13, 1, 12))

    def test_names_are_1_to_8_small_letters(self):
        for thing in ("a", "z", "abcdefgh"):
            self.assertIs(is_name(thing), True)
        for thing in ("", "abcdefghi", "A", "aB", "a1", "a b", " a", "a\n", "a_b", "\xe9", "\xdf", "`", "{",
                      None, True, 0, ("a",), ["a"], {"a": 1}):
            self.assertIs(is_name(thing), False)

    def test_tuples_are_no_lists(self):
        self.assertIs(is_tuple((1, 2), 1, 2), True)
        for thing in ((), (1, 2, 3), [1], {}, "ab", None, True):
            self.assertIs(is_tuple(thing, 1, 2), False)
        self.assertIs(is_tuple_of(("a", "b"), 1, 2, is_name), True)
        self.assertIs(is_tuple_of(("a", 2), 1, 2, is_name), False)
        self.assertIs(is_tuple_of((), 0, 2, is_name), True)

    def test_words_are_small_letters_up_to_a_bound(self):
        for thing in ("a", "z", "abc"):
            self.assertIs(is_word(thing, 3), True)
        for thing in ("", "abcd", "A", "a1", "a b", "a\n", None, True, 3, ("a",), ["a"]):
            self.assertIs(is_word(thing, 3), False)

    def test_unlike_and_rising(self):
        for things, unlike, rising in (((), True, True), (("a",), True, True), (("a", "b"), True, True),
                                       (("b", "a"), True, False), (("a", "a"), False, False),
                                       (("a", "b", "a"), False, False), (("a", "aa", "b"), True, True)):
            self.assertIs(are_unlike(things), unlike)
            self.assertIs(are_rising(things), rising)
        self.assertIs(are_rising((("a", "b"), ("a", "c"), ("b", "a"))), True)
        self.assertIs(are_rising((("a", "b"), ("a", "b"))), False)

    def test_just_what_is_told(self):
        for told in (0, 1, "a", "", None, (), (0, 1), ("a", (1, None)), (((0,), "a"), ((1, 0), "b"), None)):
            self.assertIs(is_just(told, told), True)
            for thing in list(bent(told)) + list(OTHERS):
                self.assertIs(is_just(told, thing), repr(thing) == repr(told), (told, thing))


if __name__ == "__main__":
    unittest.main()
