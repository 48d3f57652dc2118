import unittest

from tests.oracle import ENGLISH, MANY_RESTS, lines_of, plain_width, seeded, some_blanks, some_given, some_measure
from tests.oracle_pieces import MANNERS, all_given, few_blank, plain_said, some_pieces, some_tongue
from tonguehouse.blanks import are_given
from tonguehouse.rooms import in_room, rows_of, widest

TOP = 10 ** 12
FIGURES = "0123456789"
TONGUE = (ENGLISH, (",", ".", "D/M/Y", ("<<", ">>")))
N = (("n", "number", (0, 99, 0)),)
SAY = (("say", "n"),)
SHORT_ONE = (("by", "n", (("one", ("just a single one",)), ("other", (("say", "n"), " more")))),)


class Asks(unittest.TestCase):
    """Asks all three, and looks whether the given things that they tell are such and reach what is told."""

    def wide(self, measure, tongue, blanks, pieces):
        before = repr((measure, tongue, blanks, pieces))
        wide, given = widest(measure, tongue, blanks, pieces)
        self.assertTrue(are_given(blanks, given), given)
        self.assertEqual(plain_width(measure, plain_said(tongue, pieces, given)), wide)
        self.assertEqual(widest(measure, tongue, blanks, pieces), (wide, given))
        self.assertEqual(repr((measure, tongue, blanks, pieces)), before)
        return wide

    def rows(self, measure, tongue, blanks, pieces, wide):
        before = repr((measure, tongue, blanks, pieces))
        rows, given = rows_of(measure, tongue, blanks, pieces, wide)
        self.assertTrue(are_given(blanks, given), given)
        lines = lines_of(measure, wide, plain_said(tongue, pieces, given))
        self.assertEqual(None if lines is None else len(lines), rows)
        self.assertEqual(rows_of(measure, tongue, blanks, pieces, wide), (rows, given))
        self.assertEqual(repr((measure, tongue, blanks, pieces)), before)
        return rows

    def fits(self, measure, tongue, blanks, pieces, room):
        before = repr((measure, tongue, blanks, pieces))
        told = in_room(measure, tongue, blanks, pieces, room)
        self.assertEqual(in_room(measure, tongue, blanks, pieces, room), told)
        self.assertEqual(repr((measure, tongue, blanks, pieces)), before)
        if told is not True:
            self.assertTrue(are_given(blanks, told), told)
            lines = lines_of(measure, room[0], plain_said(tongue, pieces, told))
            self.assertTrue(lines is None or len(lines) > room[1])
        return told is True


class Numbers(Asks):
    def test_no_blanks(self):
        self.assertEqual(widest((), TONGUE, (), ("abc", " d")), (5, {}))
        self.assertEqual(widest((), TONGUE, (), ()), (0, {}))
        self.assertEqual(rows_of((), TONGUE, (), ("abc", " d"), 3), (2, {}))
        self.assertEqual(rows_of((), TONGUE, (), ("abc", " d"), 2), (None, {}))
        self.assertEqual(rows_of((), TONGUE, (), (), 1), (1, {}))
        self.assertIs(in_room((), TONGUE, (), ("abc", " d"), (3, 2)), True)
        self.assertEqual(in_room((), TONGUE, (), ("abc", " d"), (3, 1)), {})
        self.assertEqual(in_room((), TONGUE, (), ("abc", " d"), (2, 6)), {})

    def test_a_number_in_a_say(self):
        for low, high, d, wide in ((0, 9, 0, 1), (0, 99, 0, 2), (0, 999, 0, 3), (0, 1000, 0, 5), (0, TOP, 0, 17),
                                   (0, 9, 2, 4), (0, TOP, 2, 17), (TOP, TOP, 1, 17), (5, 5, 0, 1)):
            blanks = (("n", "number", (low, high, d)),)
            self.assertEqual(self.wide((), TONGUE, blanks, SAY), wide)
            self.assertEqual(self.rows((), TONGUE, blanks, SAY, wide), 1)
            self.assertIsNone(self.rows((), TONGUE, blanks, SAY, wide - 1))
            self.assertTrue(self.fits((), TONGUE, blanks, SAY, (wide, 1)))
            self.assertFalse(self.fits((), TONGUE, blanks, SAY, (wide - 1, 6)))

    def test_the_widest_is_not_of_the_greatest_number(self):
        self.assertEqual(self.wide((), TONGUE, N, SHORT_ONE), 17)
        self.assertEqual(widest((), TONGUE, N, SHORT_ONE)[1], {"n": (1, 0)})
        self.assertEqual(self.rows((), TONGUE, N, SHORT_ONE, 6), 3)
        self.assertFalse(self.fits((), TONGUE, N, SHORT_ONE, (6, 2)))
        self.assertTrue(self.fits((), TONGUE, N, SHORT_ONE, (6, 3)))

    def test_forms_of_which_only_some_have_a_number_of_the_range(self):
        for low, high, wide in ((2, 99, 7), (1, 1, 17), (0, 0, 6), (0, 1, 17), (100, 100, 8)):
            blanks = (("n", "number", (low, high, 0)),)
            self.assertEqual(self.wide((), TONGUE, blanks, SHORT_ONE), wide)
        blanks = (("n", "number", (0, 99, 1)),)
        self.assertEqual(self.wide((), TONGUE, blanks, SHORT_ONE), 8)

    def test_a_number_in_a_by_and_in_a_say_over_a_wide_range(self):
        tenth = (("tens", ((("whole", 10, 0, 0, True),),)), ("rest", ((("whole", 10, 0, 0, False),),)))
        pieces = (("say", "n"), ("by", "n", (("tens", ()), ("rest", ("x",)))))
        for high, wide in ((TOP, 17), (TOP - 1, 16), (10, 2), (11, 3), (100, 3), (1000, 5), (1001, 6)):
            blanks = (("n", "number", (0, high, 0)),)
            self.assertEqual(self.wide((), (tenth, TONGUE[1]), blanks, pieces), wide, high)
        by_ends = (("small", ((("whole", 0, 0, 200, True),),)), ("great", ((("whole", 0, 0, 200, False),),)))
        pieces = (("by", "n", (("small", ("abcdefghijklmno", ("say", "n"))), ("great", ("say", ("say", "n"))))),)
        for d, wide in ((0, 20), (1, 20), (2, 21)):
            blanks = (("n", "number", (0, TOP, d)),)
            self.assertEqual(self.wide((), (by_ends, TONGUE[1]), blanks, pieces), wide, d)

    def test_the_same_number_chooses_at_each_place(self):
        one = ("by", "n", (("one", ("aaaaaaaa",)), ("other", ())))
        other = ("by", "n", (("one", ()), ("other", ("bbbbbbbb",))))
        self.assertEqual(self.wide((), TONGUE, N, (one, other)), 8)
        self.assertEqual(self.wide((), TONGUE, N, (one, one, other)), 16)
        nested = ("by", "n", (("one", (other,)), ("other", (one,))))
        self.assertEqual(self.wide((), TONGUE, N, (nested,)), 0)

    def test_two_numbers_choose_apart(self):
        blanks = tuple([(name, "number", (0, 99, 0)) for name in "abc"])
        pieces = tuple([("by", name, (("one", ("xxxxx",)), ("other", ()))) for name in "abc"])
        self.assertEqual(self.wide((), TONGUE, blanks, pieces), 15)
        self.assertEqual(widest((), TONGUE, blanks, pieces)[1], {name: (1, 0) for name in "abc"})

    def test_wide_figures_groups_and_points(self):
        blanks = (("n", "number", (0, 123456, 2)),)
        self.assertEqual(self.wide(((FIGURES, 3), (",", 0), (".", 4)), TONGUE, blanks, SAY), 22)
        self.assertEqual(self.wide(((FIGURES, 0), (",", 4)), TONGUE, blanks, SAY), 5)


class WordsAndDays(Asks):
    def test_words_of_widest_letters(self):
        for measure, wide in (((), 7), ((("m", 3), ("w", 2)), 21), ((("abcdefghijklmnopqrstuvwxy", 0),), 7),
                              ((("abcdefghijklmnopqrstuvwxyz", 0),), 0), ((("il", 0), ("z", 4)), 28), ((("A", 4),), 7)):
            self.assertEqual(self.wide(measure, TONGUE, (("who", "word", (7, ("he", "she"))),), (("say", "who"),)), wide)

    def test_a_word_s_kind(self):
        blanks = (("who", "word", (3, ("he", "she", "they"))),)
        pieces = (("by", "who", (("they", ("x", ("say", "who"))), ("she", ("yyyy",)), ("he", (("say", "who"), "zz")))),)
        self.assertEqual(self.wide((), TONGUE, blanks, pieces), 5)
        self.assertEqual(widest((), TONGUE, blanks, pieces)[1]["who"][1], "he")
        self.assertEqual(self.wide((("y", 2),), TONGUE, blanks, pieces), 8)
        self.assertEqual(self.wide((("x", 3), ("y", 0), ("z", 0)), TONGUE, blanks, pieces), 12)

    def test_days(self):
        blanks = (("when", "day", ()),)
        for manner, wide in ((TONGUE[1], 10), (("", ",", "d.m.y", ("", "")), 10), (("", ",", "y", ("", "")), 4),
                             (("", ",", "YYYYYYYYYYYY", ("", "")), 48), (("", ",", "x", ("", "")), 1)):
            self.assertEqual(self.wide((), (ENGLISH, manner), blanks, (("say", "when"),)), wide)
        self.assertEqual(self.wide(((FIGURES, 2), ("/", 0)), TONGUE, blanks, (("say", "when"),)), 16)
        self.assertIsNone(self.rows((), TONGUE, blanks, (("say", "when"),), 9))

    def test_quotes_are_of_the_word_that_they_stand_at(self):
        self.assertEqual(self.wide((), TONGUE, (), ("a", ("quote", ("b",)))), 6)
        self.assertEqual(self.rows((), TONGUE, (), ("a ", ("quote", ("b c",))), 3), 3)
        self.assertIsNone(self.rows((), TONGUE, (), ("a ", ("quote", ("b c",))), 2))

    def test_blanks_that_are_not_used_are_given_all_the_same(self):
        blanks = (("a", "day", ()), ("b", "number", (3, 9, 1)), ("c", "word", (4, ("he", "it"))), ("d", "number", (0, 0, 0)))
        self.assertEqual(self.wide((), TONGUE, blanks, ("abc",)), 3)
        self.assertEqual(self.rows((), TONGUE, blanks, ("abc",), 3), 1)
        self.assertFalse(self.fits((), TONGUE, blanks, ("abc",), (2, 6)))


class Lines(Asks):
    def test_rows_none_where_some_given_things_have_no_lines(self):
        pieces = (("by", "n", (("one", ("abcdefg",)), ("other", ("a b c d e f",)))),)
        self.assertIsNone(self.rows((), TONGUE, N, pieces, 6))
        self.assertEqual(self.rows((), TONGUE, N, pieces, 7), 2)
        self.assertFalse(self.fits((), TONGUE, N, pieces, (6, 6)))
        self.assertTrue(self.fits((), TONGUE, N, pieces, (7, 2)))
        self.assertFalse(self.fits((), TONGUE, N, pieces, (7, 1)))

    def test_the_most_lines_are_not_of_the_widest(self):
        pieces = (("by", "n", (("one", ("aaaa bbbb cccc",)), ("other", ("aaaaaaa bbbbbbb",)))),)
        self.assertEqual(self.wide((), TONGUE, N, pieces), 15)
        self.assertEqual(self.rows((), TONGUE, N, pieces, 7), 3)

    def test_wide_blanks_and_signs_without_width(self):
        self.assertEqual(self.rows(((" ", 0),), TONGUE, N, (("say", "n"), " ", ("say", "n")), 4), 1)
        self.assertEqual(self.rows(((" ", 4),), TONGUE, N, (("say", "n"), " ", ("say", "n")), 7), 2)
        self.assertEqual(self.rows(((" ", 4),), TONGUE, N, (("say", "n"), " ", ("say", "n")), 8), 1)
        self.assertEqual(self.rows(((FIGURES, 0),), TONGUE, N, (("say", "n"), " ", ("say", "n")), 1), 1)
        self.assertEqual(self.rows(((FIGURES, 0), (" ", 2)), TONGUE, N, (("say", "n"), " ", ("say", "n")), 1), 2)

    def test_what_is_told_is_made_for_that_answer_alone(self):
        for ask in (lambda: widest((), TONGUE, N, SHORT_ONE)[1], lambda: rows_of((), TONGUE, N, SHORT_ONE, 6)[1],
                    lambda: in_room((), TONGUE, N, SHORT_ONE, (6, 1))):
            told = ask()
            before = dict(told)
            told["n"] = told["x"] = None
            self.assertEqual(ask(), before)


class Walks(Asks):
    def test_few_given_things_as_a_walk_through_all_says(self):
        some = seeded(91)
        done = 0
        while done < 350:
            tongue, measure = some_tongue(some), some.choice(((), some_measure(some), some_measure(some)))
            blanks = tuple([few_blank(some, name) for name in "abcd"[:some.choice((1, 2, 2, 3))]])
            everything = all_given(blanks)
            if len(everything) > 500:
                continue
            pieces = some_pieces(some, tongue[0], blanks)
            texts = {plain_said(tongue, pieces, given) for given in everything}
            done += 1
            self.assertEqual(self.wide(measure, tongue, blanks, pieces), max([plain_width(measure, text) for text in texts]))
            for wide in (some.randint(1, 12), some.randint(8, 40), 200):
                lines = [lines_of(measure, wide, text) for text in texts]
                most = None if None in lines else max([len(row) for row in lines])
                self.assertEqual(self.rows(measure, tongue, blanks, pieces, wide), most, (blanks, pieces, wide))
                for rows in range(1, 7):
                    answer = most is not None and most <= rows
                    self.assertIs(self.fits(measure, tongue, blanks, pieces, (wide, rows)), answer)

    def test_wide_ranges_against_some_given_things(self):
        some = seeded(92)
        for time in range(250):
            tongue, measure, blanks = some_tongue(some), some_measure(some), some_blanks(some)
            pieces = some_pieces(some, tongue[0], blanks)
            wide = self.wide(measure, tongue, blanks, pieces)
            room = (some.randint(1, 60), some.randint(1, 6))
            rows = self.rows(measure, tongue, blanks, pieces, room[0])
            answer = rows is not None and rows <= room[1]
            self.assertIs(self.fits(measure, tongue, blanks, pieces, room), answer)
            for turn in range(15):
                text = plain_said(tongue, pieces, some_given(some, blanks))
                lines = lines_of(measure, room[0], text)
                self.assertLessEqual(plain_width(measure, text), wide)
                if rows is not None:
                    self.assertLessEqual(len(lines), rows)

    def test_three_numbers_of_six_forms_each(self):
        forms = tuple([(f"f{'abcdef'[at]}", ((("whole", 6, at, at, True),),)) for at in range(6)])
        blanks = tuple([(name, "number", (0, TOP, 2)) for name in "abc"])
        pieces = tuple([("by", name, tuple([(word, (word, ("say", name))) for word, rule in forms])) for name in "ab"])
        pieces = (("by", "c", tuple([(word, ("x" * (at + 1),)) for at, (word, rule) in enumerate(forms)])),) + pieces
        self.assertEqual(self.wide((), (forms, MANNERS[0]), blanks, pieces), 6 + 2 * (2 + 17))
        self.assertEqual(self.wide(((FIGURES, 0),), (forms, MANNERS[0]), blanks, pieces), 6 + 2 * (2 + 4))

    def test_forms_of_rests(self):
        pieces = (("by", "n", (("none", ("nnnn",)), ("tenth", ("tt",)), ("odd", ("o", ("say", "n"))), ("even", ()))),)
        for low, high, d, wide in ((0, 99, 2, 4), (0, 199, 2, 5), (100, 100, 2, 4), (0, 250, 0, 4), (10, 10, 2, 2),
                                   (1, 9, 2, 0), (0, TOP, 2, 17), (0, TOP, 1, 17)):
            blanks = (("n", "number", (low, high, d)),)
            self.assertEqual(self.wide((), (MANY_RESTS, MANNERS[0]), blanks, pieces), wide, (low, high, d))


if __name__ == "__main__":
    unittest.main()
