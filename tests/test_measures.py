import unittest

from tests.bending import OTHERS, SIGN, Says, bent, is_int, is_row_of, is_str, nested
from tests.oracle import lines_of, plain_width, seeded, some_measure
from tonguehouse.measures import fits, is_measure, is_room, laid, width

FIGURES = "0123456789"
GOOD = (
    (),
    ((FIGURES, 2),),
    (("", 0),),
    (("", 0), ("", 4)),
    (("il.", 0), ("mw", 3), (FIGURES + "WM", 4), (" ", 0)),
    (("a", 0), ("b", 1), ("c", 2), ("d", 3), ("e", 4), ("f", 1)),
    (("aa", 2), ("b" * 200, 1)),
    ((FIGURES[::-1] + FIGURES, 3),),
)


def plainly_measure(thing):
    def is_pair(pair):
        if type(pair) is not tuple or len(pair) != 2 or not is_str(pair[0], SIGN + "{0,200}"):
            return False
        return len(set(pair[0]) & set(FIGURES)) in (0, 10) and is_int(pair[1], 0, 4)

    if not is_row_of(thing, 0, 6, is_pair):
        return False
    return not [1 for at, pair in enumerate(thing) for other in thing[:at] if set(pair[0]) & set(other[0])]


class IsMeasure(Says, unittest.TestCase):
    def test_measures_that_are_such(self):
        for measure in GOOD:
            self.says(is_measure, measure, True)
        some = seeded(51)
        for time in range(100):
            self.says(is_measure, some_measure(some), True)

    def test_each_part_bent_at_any_depth(self):
        for measure in GOOD:
            for thing in bent(measure):
                self.says(is_measure, thing, plainly_measure(thing))

    def test_things_of_other_kinds(self):
        for thing in OTHERS:
            self.says(is_measure, thing, thing == () and type(thing) is tuple)
        for thing in ([("a", 1)], {"a": 1}, "a1", (["a", 1],), ("a", 1), nested(23), (None,) * 1999, (("a", nested(21)),)):
            self.says(is_measure, thing, False)

    def test_a_sign_in_two_texts(self):
        for thing in ((("ab", 1), ("bc", 1)), (("a", 1), ("b", 2), ("xa", 1)), (("a", 1), ("a", 1)), ((" ", 1), (" a", 1)),
                      ((FIGURES, 1), (FIGURES, 1)), (("aa", 1), ("b", 1), ("a", 2))):
            self.says(is_measure, thing, False)

    def test_a_sign_twice_in_one_text(self):
        for thing in ((("aa", 1),), (("abab", 1), ("cc", 1)), ((FIGURES * 2, 4), ("  ", 0))):
            self.says(is_measure, thing, True)

    def test_some_of_the_figures(self):
        for at in range(10):
            self.says(is_measure, ((FIGURES[:at] + FIGURES[at + 1:], 1),), False)
            self.says(is_measure, ((FIGURES[at], 1),), False)
            self.says(is_measure, ((FIGURES[:at] + "abc", 1), (FIGURES[at:], 1)), at == 0)

    def test_widths_at_and_beyond_their_bounds(self):
        for wide in range(-2, 8):
            self.says(is_measure, (("a", wide),), 0 <= wide <= 4)
        for wide in (True, False, None, "1", (1,), 10 ** 39):
            self.says(is_measure, (("a", wide),), False)

    def test_how_many_pairs(self):
        for many in range(9):
            self.says(is_measure, tuple([(letter, 1) for letter in "abcdefghi"[:many]]), many <= 6)

    def test_texts(self):
        for signs, answer in (("a" * 200, True), ("a" * 201, False), ("\n", False), ("a\t", False), ("\x25", False),
                              ("\xe9", False), ("~ !", True), (("a",), False), (None, False)):
            self.says(is_measure, ((signs, 1),), answer)


class IsRoom(Says, unittest.TestCase):
    def test_rooms(self):
        for wide in (0, 1, 200, 201):
            for rows in (0, 1, 6, 7):
                self.says(is_room, (wide, rows), 1 <= wide <= 200 and 1 <= rows <= 6)
        for thing in ([1, 1], (1,), (1, 1, 1), (True, 1), (1, True), ("1", 1), (1, None), None, 5, "", {}):
            self.says(is_room, thing, False)


class Width(unittest.TestCase):
    def test_signs_told_and_not_told(self):
        measure = (("il", 0), ("mw", 3), (FIGURES, 2), (" ", 4))
        for text, wide in (("", 0), ("a", 1), ("i", 0), ("ill", 0), ("m", 3), ("07", 4), (" ", 4), ("I am 9", 15), ("~", 1)):
            self.assertEqual(width(measure, text), wide)

    def test_no_measure_is_how_many(self):
        for text in ("", "abc", "a b  c", FIGURES):
            self.assertEqual(width((), text), len(text))

    def test_a_sign_that_stands_twice_counts_once(self):
        self.assertEqual(width((("aa", 3),), "a"), 3)
        self.assertEqual(width((("aba", 3), ("cc", 0)), "abcabc"), 12)

    def test_long_texts(self):
        self.assertEqual(width((("a", 4),), "ab" * 1000), 5000)

    def test_some_texts(self):
        some = seeded(52)
        for time in range(200):
            measure = some_measure(some)
            text = "".join([some.choice("abc xyz 0189 .,") for sign in range(some.randint(0, 60))])
            self.assertEqual(width(measure, text), plain_width(measure, text))


class Laid(unittest.TestCase):
    def test_the_empty_text_is_one_line(self):
        self.assertEqual(laid((), 1, ""), ("",))
        self.assertEqual(laid((), 200, ""), ("",))

    def test_words_come_into_the_line_while_it_is_not_wider(self):
        self.assertEqual(laid((), 7, "aa bb cc dd"), ("aa bb", "cc dd"))
        self.assertEqual(laid((), 8, "aa bb cc dd"), ("aa bb cc", "dd"))
        self.assertEqual(laid((), 5, "aa bb cc dd"), ("aa bb", "cc dd"))
        self.assertEqual(laid((), 4, "aa bb cc dd"), ("aa", "bb", "cc", "dd"))
        self.assertEqual(laid((), 11, "aa bb cc dd"), ("aa bb cc dd",))

    def test_words_just_as_wide_as_the_room_and_wider_ones(self):
        self.assertEqual(laid((), 3, "abc"), ("abc",))
        self.assertEqual(laid((), 3, "a abc b"), ("a", "abc", "b"))
        self.assertIsNone(laid((), 2, "abc"))
        self.assertIsNone(laid((), 3, "a b c abcd"))
        self.assertIsNone(laid((), 3, "abcd a"))
        self.assertIsNone(laid((("m", 4),), 3, "a m"))
        self.assertEqual(laid((("i", 0),), 1, "i" * 50), ("i" * 50,))

    def test_blanks_at_both_ends_and_side_by_side(self):
        self.assertEqual(laid((), 9, " a  b "), (" a  b ",))
        self.assertEqual(laid((), 1, " "), (" ",))
        self.assertEqual(laid((), 1, "  "), (" ", ""))
        self.assertEqual(laid((), 1, " a"), ("", "a"))
        self.assertEqual(laid((), 1, "a "), ("a", ""))
        self.assertEqual(laid((), 1, "a  b"), ("a", "", "b"))
        self.assertEqual(laid((), 2, "a  b"), ("a ", "b"))
        self.assertEqual(laid((), 2, "ab  c"), ("ab", " c"))
        self.assertEqual(laid((), 1, "   "), (" ", " "))

    def test_blanks_as_wide_as_the_measure_says(self):
        self.assertEqual(laid(((" ", 0),), 2, "a b c"), ("a b", "c"))
        self.assertEqual(laid(((" ", 0),), 1, "a    "), ("a    ",))
        self.assertEqual(laid(((" ", 4),), 5, "a b"), ("a", "b"))
        self.assertEqual(laid(((" ", 4),), 6, "a b"), ("a b",))
        self.assertEqual(laid(((" ", 4),), 3, " "), ("", ""))
        self.assertEqual(laid(((" ab", 0),), 1, "a b" * 60), ("a b" * 60,))

    def test_a_line_of_words_without_width_takes_blanks_all_the_same(self):
        self.assertEqual(laid((("i", 0),), 1, "i i i"), ("i i", "i"))
        self.assertEqual(laid((("i", 0), (" ", 2)), 1, "i i i"), ("i", "i", "i"))

    def test_some_texts_as_the_words_say(self):
        some = seeded(53)
        for time in range(3000):
            measure = some.choice(((), some_measure(some)))
            text = "".join([some.choice("abwi  01,") for sign in range(some.choice((0, 3, 12, 40)))])
            wide = some.choice((1, 2, 3, 5, 8, 13, 40, 200))
            before = repr(measure)
            lines = laid(measure, wide, text)
            self.assertEqual(lines, lines_of(measure, wide, text), (measure, wide, text))
            self.assertEqual(repr(measure), before)
            if lines is not None:
                self.assertIsInstance(lines, tuple)
                self.assertEqual(" ".join(lines), text)

    def test_wider_words_have_never_fewer_lines(self):
        some = seeded(54)
        for time in range(500):
            words = [some.randint(0, 5) for word in range(some.randint(1, 8))]
            wider = [many + some.randint(0, 2) for many in words]
            measure = ((" ", some.randint(0, 3)),)
            few, many = [laid(measure, 7, " ".join(["x" * word for word in row])) for row in (words, wider)]
            self.assertLessEqual(len(few), len(many))

    def test_long_texts(self):
        self.assertEqual(laid((), 199, "a " * 1000), ("a " * 99 + "a",) * 10 + ("",))


class Fits(unittest.TestCase):
    def test_just_so_many_rows_and_one_more(self):
        for rows in range(1, 7):
            self.assertIs(fits((), (2, rows), " ".join(["aa"] * rows)), True)
            self.assertIs(fits((), (2, rows), " ".join(["aa"] * (rows + 1))), False)

    def test_no_lines(self):
        self.assertIs(fits((), (2, 6), "aaa"), False)
        self.assertIs(fits((), (3, 6), "aaa"), True)
        self.assertIs(fits((), (1, 1), ""), True)
        self.assertIs(fits((), (1, 1), "  "), False)
        self.assertIs(fits(((" ", 0),), (1, 1), "  "), True)

    def test_some_texts_as_the_words_say(self):
        some = seeded(55)
        for time in range(500):
            measure = some_measure(some)
            text = "".join([some.choice("abwi  01,") for sign in range(some.randint(0, 40))])
            room = (some.randint(1, 12), some.randint(1, 6))
            lines = lines_of(measure, room[0], text)
            self.assertIs(fits(measure, room, text), lines is not None and len(lines) <= room[1])


if __name__ == "__main__":
    unittest.main()
