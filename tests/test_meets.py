import itertools
import unittest

from tests.oracle import seeded
from tests.oracle_meets import Refused, plain_met
from tonguehouse.errors import Clash, HouseError
from tonguehouse.meets import met

SAY = ("say", "n")
QUOTE = ("quote", ("a", SAY))
BY = ("by", "n", (("one", ("x",)), ("other", (SAY,))))


class Met(unittest.TestCase):
    def both_turns(self, base, one, other):
        before = repr((base, one, other))
        told = []
        for turn in ((one, other), (other, one)):
            try:
                told.append(met(base, turn[0], turn[1]))
            except Clash as error:
                told.append((error.first, error.last, "clash"))
        self.assertEqual(told[0], told[1])
        self.assertIs(type(told[0]), tuple)
        self.assertEqual(repr((base, one, other)), before)
        return told[0]

    def tells(self, base, one, other, row):
        self.assertEqual(self.both_turns(tuple(base), tuple(one), tuple(other)), tuple(row))

    def clashes(self, base, one, other, first, last):
        told = self.both_turns(tuple(base), tuple(one), tuple(other))
        self.assertEqual(told, (first, last, "clash"))
        with self.assertRaises(HouseError) as caught:
            met(tuple(base), tuple(one), tuple(other))
        self.assertIs(type(caught.exception), Clash)
        self.assertEqual((caught.exception.first, caught.exception.last), (first, last))

    def test_the_base_itself_on_either_side(self):
        for base, other in (("abc", "axc"), ("abc", ""), ("", "abc"), ("", ""), ("abc", "abc"), ("aa", "aaa"), ("ab", "ba")):
            self.tells(base, base, other, other)

    def test_both_alike(self):
        for base, one in (("abc", "axc"), ("abc", ""), ("", "x"), ("abc", "abcd"), ("abc", "xabc")):
            self.tells(base, one, one, one)

    def test_stretches_far_apart(self):
        self.tells("abcdef", "xbcdef", "abcdey", "xbcdey")
        self.tells("abcdef", "bcdef", "abcde", "bcde")
        self.tells("abcdef", "xyzcdef", "abcdpqr", "xyzcdpqr")
        self.tells("abcdef", "xabcdef", "abcdefy", "xabcdefy")
        self.tells("abcdef", "acdef", "abcdxef", "acdxef")

    def test_stretches_side_by_side(self):
        self.tells("abcd", "axcd", "abyd", "axyd")
        self.tells("abcd", "xycd", "abpq", "xypq")
        self.tells("abcd", "cd", "ab", "")
        self.tells("ab", "xb", "ay", "xy")

    def test_stretches_over_one_another(self):
        self.clashes("abcd", "axcd", "aycd", 1, 2)
        self.clashes("abcd", "axxd", "abyd", 1, 3)
        self.clashes("abcde", "xxxde", "abyyy", 0, 5)
        self.clashes("abcde", "vwxyz", "abxde", 0, 5)
        self.clashes("abcde", "ade", "axcde", 1, 3)
        self.clashes("abc", "", "axc", 0, 3)

    def test_empty_ones_at_two_places(self):
        self.tells("abc", "axbc", "abyc", "axbyc")
        self.tells("abc", "xabc", "abcy", "xabcy")

    def test_empty_ones_at_one_place(self):
        self.clashes("abc", "axbc", "aybc", 1, 1)
        self.clashes("", "x", "y", 0, 0)
        self.clashes("ab", "abx", "aby", 2, 2)
        self.clashes("ab", "xab", "yyab", 0, 0)

    def test_an_empty_one_at_an_end_of_another(self):
        self.tells("abc", "axbc", "ayc", "axyc")
        self.tells("abc", "abxc", "ayc", "ayxc")
        self.tells("abc", "xabc", "ybc", "xybc")
        self.tells("abc", "abcx", "aby", "abyx")
        self.clashes("abcd", "abxcd", "ayyd", 1, 3)
        self.tells("abcd", "abxcd", "aycd", "ayxcd")

    def test_pieces_that_come_twice(self):
        # As many as both begin with are taken first: of "aa" to "aaa" the stretch is empty at 2.
        self.clashes("aa", "aaa", "aax", 2, 2)
        self.tells("aa", "aaa", "xaa", "xaaa")
        self.tells("aab", "ab", "aax", "ax")
        self.clashes("aab", "ab", "axb", 1, 2)
        self.tells("aab", "ab", "xab", "xb")
        self.clashes("abab", "ababab", "ababx", 4, 4)
        self.tells("abab", "ab", "xbab", "xb")
        self.clashes("abab", "ab", "abxb", 2, 4)
        self.tells("aaa", "a", "xaa", "xaa"[:1])

    def test_more_than_8_pieces_and_up_to_40(self):
        base = tuple("abcdefgh")
        self.tells(base, ("x",) + base, base + ("y",), ("x",) + base + ("y",))
        long = tuple([str(at) for at in range(38)])
        self.tells(long, ("x", "y") + long, long + ("p", "q"), ("x", "y") + long + ("p", "q"))
        self.clashes(long, long[:5] + ("x",) + long[30:], long[:20] + ("y",) + long[35:], 5, 35)

    def test_pieces_of_all_kinds_are_outermost_ones(self):
        base = (SAY, QUOTE, BY, "a")
        inner = ("quote", ("b", SAY))
        self.tells(base, (SAY, inner, BY, "a"), (SAY, QUOTE, "x", "a"), (SAY, inner, "x", "a"))
        self.clashes(base, (SAY, inner, BY, "a"), (SAY, ("quote", ("a",)), BY, "a"), 1, 2)
        self.tells(base, (SAY, QUOTE, BY, "b"), (QUOTE, BY, "a"), (QUOTE, BY, "b"))

    def test_all_rows_of_few_pieces_as_the_words_say(self):
        rows = [row for many in range(4) for row in itertools.product("ab", repeat=many)]
        for base, one, other in itertools.product(rows, repeat=3):
            self.compares(base, one, other)

    def test_some_rows_as_the_words_say(self):
        some = seeded(191)
        refused = 0
        for time in range(4000):
            base = tuple([some.choice("abc") for piece in range(some.choice((0, 2, 5, 8, 40)))])
            refused += self.compares(base, self.changed(some, base), self.changed(some, base))
        self.assertTrue(400 < refused < 3600, refused)

    def changed(self, some, base):
        begin = some.randint(0, len(base))
        end = min(len(base), begin + some.choice((0, 0, 1, 2, 5)))
        return base[:begin] + tuple([some.choice("abcx") for piece in range(some.choice((0, 1, 2)))]) + base[end:]

    def compares(self, base, one, other):
        try:
            told = plain_met(base, one, other)
        except Refused as error:
            told = error.field + ("clash",)
        self.assertEqual(self.both_turns(base, one, other), told, (base, one, other))
        return told[-1:] == ("clash",)


if __name__ == "__main__":
    unittest.main()
