import unittest

from tests.oracle import ENGLISH, MANY_RESTS, seeded, some_blanks, some_given
from tests.oracle_pieces import all_paths, piece_at, plain_said, plain_word, some_pieces, some_tongue
from tonguehouse.sayings import said, said_ways

TONGUE = (ENGLISH, (",", ".", "D/M/Y", ("<<", ">")))
OTHER = (MANY_RESTS, ("", ",", "y-m-d", ("", "'")))
GIVEN = {"n": (1, 0), "many": (1234567, 2), "who": ("ann", "she"), "when": (26, 1, 5)}
FILES = ("by", "n", (("one", ("a file",)), ("other", (("say", "n"), " files"))))
WHO = ("by", "who", (("he", ("his",)), ("she", ("her",))))


class Said(unittest.TestCase):
    def says(self, pieces, text, given=GIVEN, tongue=TONGUE):
        before = repr((tongue, pieces, given))
        self.assertEqual(said(tongue, pieces, given), text)
        self.assertEqual(said(tongue, pieces, given), text)
        self.assertEqual(repr((tongue, pieces, given)), before)

    def test_texts_as_they_are(self):
        self.says((), "")
        self.says(("a",), "a")
        self.says((" a {", "say", "}  "), " a {say}  ")

    def test_each_sort_of_blank(self):
        self.says((("say", "n"),), "1")
        self.says((("say", "many"),), "12,345.67")
        self.says((("say", "who"),), "ann")
        self.says((("say", "when"),), "05/01/0026")
        self.says((("say", "who"), ("say", "who"), " ", ("say", "n")), "annann 1")

    def test_by_the_tongue_s_own_ways(self):
        self.says((("say", "many"),), "12345,67", tongue=OTHER)
        self.says((("say", "when"),), "26-1-5", tongue=OTHER)
        self.says((("quote", ("a",)),), "a'", tongue=OTHER)
        by = ("by", "many", tuple([(word, (word.upper(),)) for word in ("odd", "none", "tenth", "even")]))
        for count, text in (((1200, 2), "NONE"), ((1250, 2), "TENTH"), ((1255, 2), "EVEN"), ((1355, 2), "ODD"),
                            ((1355, 0), "NONE"), ((1355, 1), "ODD")):
            self.says((by,), text, tongue=OTHER, given={"many": count})

    def test_a_by_of_a_number(self):
        for count, text in (((1, 0), "a file"), ((0, 0), "0 files"), ((2, 0), "2 files"), ((10, 1), "1.0 files"),
                            ((10 ** 12, 0), "1,000,000,000,000 files")):
            self.says((FILES,), text, given={"n": count})

    def test_a_by_of_a_word(self):
        self.says((WHO,), "her")
        self.says((WHO,), "his", given={"who": ("she", "he")})

    def test_quotes(self):
        self.says((("quote", ()),), "<<>")
        self.says(("a ", ("quote", ("b", ("quote", (WHO,)), "c")), " d"), "a <<b<<her>c> d")

    def test_a_by_within_a_by_of_the_same_blank(self):
        inner = ("by", "n", (("one", ("1",)), ("other", ("2",))))
        pieces = (("by", "n", (("other", ("x", inner)), ("one", ("y", inner)))),)
        self.says(pieces, "y1")
        self.says(pieces, "x2", given={"n": (7, 0)})

    def test_given_things_that_the_pieces_do_not_use_do_nothing(self):
        self.says((FILES,), "a file", given={"n": (1, 0), "other": None, "more": [1]})

    def test_some_pieces_as_the_words_say(self):
        some = seeded(81)
        for time in range(800):
            blanks, tongue = some_blanks(some), some_tongue(some)
            pieces = some_pieces(some, tongue[0], blanks)
            for turn in range(4):
                given = some_given(some, blanks)
                self.says(pieces, plain_said(tongue, pieces, given), given=given, tongue=tongue)


class SaidWays(unittest.TestCase):
    def says(self, pieces, ways, given=GIVEN, tongue=TONGUE):
        before = repr((tongue, pieces, given))
        self.assertEqual(said_ways(tongue, pieces, given), ways)
        self.assertIsInstance(said_ways(tongue, pieces, given), tuple)
        self.assertEqual(repr((tongue, pieces, given)), before)

    def test_no_by(self):
        self.says((), ())
        self.says(("a", ("say", "n"), ("quote", ("b",))), ())

    def test_side_by_side(self):
        self.says((FILES, " and ", WHO), (((0,), "one"), ((2,), "she")))
        self.says((FILES, " and ", WHO), (((0,), "other"), ((2,), "he")), given={"n": (3, 0), "who": ("a", "he")})

    def test_within_quotes_and_choices(self):
        self.says(("a", ("quote", ("b", FILES))), (((1, 1), "one"),))
        outer = ("by", "who", (("he", (FILES,)), ("she", ("a", ("quote", (FILES, FILES))))))
        self.says(("a", outer, WHO), (((1,), "she"), ((1, 1, 1, 0), "one"), ((1, 1, 1, 1), "one"), ((2,), "she")))
        self.says((outer,), (((0,), "he"), ((0, 0, 0), "other")), given={"n": (0, 0), "who": ("a", "he")})

    def test_none_of_those_that_were_not_gone_through(self):
        outer = ("by", "n", (("one", ()), ("other", (WHO,))))
        self.says((outer,), (((0,), "one"),))
        self.says((outer,), (((0,), "other"), ((0, 1, 0), "she")), given={"n": (2, 0), "who": ("a", "she")})

    def test_some_pieces_as_the_words_say(self):
        some = seeded(82)
        for time in range(500):
            blanks, tongue = some_blanks(some), some_tongue(some)
            pieces = some_pieces(some, tongue[0], blanks)
            given = some_given(some, blanks)
            ways = []
            for path in sorted(all_paths(pieces)):
                if piece_at(pieces, path)[0] == "by" and self.is_gone(tongue, pieces, given, path):
                    ways.append((path, plain_word(tongue[0], given[piece_at(pieces, path)[1]])))
            self.says(pieces, tuple(ways), given=given, tongue=tongue)

    def is_gone(self, tongue, pieces, given, path):
        """Whether each by around the place has its choice there."""
        for many in range(1, len(path)):
            if path[:many] in all_paths(pieces):
                piece = piece_at(pieces, path[:many])
                if piece[0] == "by" and piece[2][path[many]][0] != plain_word(tongue[0], given[piece[1]]):
                    return False
        return True


if __name__ == "__main__":
    unittest.main()
