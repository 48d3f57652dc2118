import unittest

from tests.bending import OTHERS, SIGN, Says, bent, is_row_of, is_str, nested
from tests.oracle import plain_count, seeded
from tonguehouse.manners import is_manner, said_count, said_day

PLAIN = (",", ".", "Y-M-D", ('"', '"'))
BARE = ("", ",", "d.m.y", ("", ""))
GOOD = (PLAIN, BARE, ("'", ",", "y", ("<<", ">>")), (".", ",", "abcdefghijkl", ("a", "12")), ("a", "b", "2026", ("", "~!")))


def plainly_manner(thing):
    if type(thing) is not tuple or len(thing) != 4:
        return False
    group, point, day, quotes = thing
    if not is_str(group, r"[!-$&-/:-~]?") or not is_str(point, r"[!-$&-/:-~]") or group == point:
        return False
    return is_str(day, r"[!-$&-~]{1,12}") and is_row_of(quotes, 2, 2, lambda text: is_str(text, r"[!-$&-~]{0,2}"))


class IsManner(Says, unittest.TestCase):
    def with_parts(self, group=",", point=".", day="Y", quotes=("<", ">")):
        return (group, point, day, quotes)

    def test_manners_that_are_such(self):
        for manner in GOOD:
            self.says(is_manner, manner, True)

    def test_each_part_bent_at_any_depth(self):
        for manner in GOOD:
            for thing in bent(manner):
                self.says(is_manner, thing, plainly_manner(thing))

    def test_things_of_other_kinds(self):
        for thing in OTHERS + (list(PLAIN), dict(zip("abcd", PLAIN)), "manner", nested(23), (None,) * 1999, ",.Yq"):
            self.says(is_manner, thing, False)

    def test_each_sign_at_each_place(self):
        for number in list(range(0, 130)) + [233, 8232]:
            sign = chr(number)
            self.says(is_manner, self.with_parts(group=sign), is_str(sign, r"[!-$&-/:-~]") and sign != ".")
            self.says(is_manner, self.with_parts(point=sign), is_str(sign, r"[!-$&-/:-~]") and sign != ",")
            inked = is_str(sign, SIGN) and sign != " "
            for day in (sign, "Y" + sign, sign + "M", "d" + sign + "m"):
                self.says(is_manner, self.with_parts(day=day), inked)
            for quotes in ((sign, ""), ("", sign), ("a" + sign, "b"), ("b", sign + "a")):
                self.says(is_manner, self.with_parts(quotes=quotes), inked)

    def test_group_and_point(self):
        for group, point, answer in (("", ".", True), ("", "", False), (",", "", False), (",", ",", False),
                                     (".", ".", False), (",,", ".", False), (",", "..", False), ("a", "A", True)):
            self.says(is_manner, self.with_parts(group=group, point=point), answer)

    def test_how_long_a_day_is(self):
        for many in range(15):
            self.says(is_manner, self.with_parts(day="x" * many), 1 <= many <= 12)
        self.says(is_manner, self.with_parts(day="1Y2"), True)

    def test_quotes(self):
        for quotes, answer in ((("", ""), True), (("ab", "cd"), True), (("abc", "d"), False), (("a", "bcd"), False),
                               (("a",), False), (("a", "b", "c"), False), ((), False), (["a", "b"], False), ("ab", False),
                               (("9", "0"), True), (("a", None), False), ((("a",), "b"), False), (None, False)):
            self.says(is_manner, self.with_parts(quotes=quotes), answer)

    def test_parts_left_out_or_more(self):
        for at in range(4):
            self.says(is_manner, PLAIN[:at] + PLAIN[at + 1:], False)
        self.says(is_manner, PLAIN + ("",), False)


class SaidCount(unittest.TestCase):
    def test_no_one_and_two_places(self):
        for count, text in (((0, 0), "0"), ((7, 0), "7"), ((0, 1), "0.0"), ((7, 1), "0.7"), ((0, 2), "0.00"),
                            ((7, 2), "0.07"), ((70, 2), "0.70"), ((1234, 0), "1,234"), ((1234, 1), "123.4"),
                            ((1234, 2), "12.34"), ((1205, 2), "12.05"), ((1200, 2), "12.00"), ((123400, 2), "1,234.00")):
            self.assertEqual(said_count(PLAIN, count), text)

    def test_at_the_bounds_of_three(self):
        for n, text in ((999, "999"), (1000, "1,000"), (99999, "99,999"), (999999, "999,999"), (1000000, "1,000,000"),
                        (999999999, "999,999,999"), (10 ** 9, "1,000,000,000"), (10 ** 12, "1,000,000,000,000")):
            self.assertEqual(said_count(PLAIN, (n, 0)), text)
        self.assertEqual(said_count(PLAIN, (10 ** 12, 2)), "10,000,000,000.00")
        self.assertEqual(said_count(PLAIN, (10 ** 12 - 1, 1)), "99,999,999,999.9")

    def test_without_a_group(self):
        for count, text in (((1000, 0), "1000"), ((10 ** 12, 0), "1000000000000"), ((123456, 1), "12345,6")):
            self.assertEqual(said_count(BARE, count), text)

    def test_other_groups_and_points(self):
        self.assertEqual(said_count((".", ",", "y", ("", "")), (123456789, 2)), "1.234.567,89")
        self.assertEqual(said_count(("a", "b", "y", ("", "")), (123456789, 1)), "12a345a678b9")

    def test_wholes_of_1_to_13_figures(self):
        some = seeded(3)
        for figures in range(1, 14):
            for time in range(20):
                n = min(some.randint(10 ** (figures - 1), 10 ** figures - 1), 10 ** 12)
                for d in range(3):
                    for manner in GOOD:
                        before = repr(manner)
                        self.assertEqual(said_count(manner, (n, d)), plain_count(manner, n, d))
                        self.assertEqual(repr(manner), before)


class SaidDay(unittest.TestCase):
    def says(self, day, pattern, text):
        self.assertEqual(said_day((",", ".", pattern, ("", "")), day), text)

    def test_each_letter(self):
        for pattern, text in (("y", "5"), ("m", "3"), ("d", "9"), ("Y", "0005"), ("M", "03"), ("D", "09")):
            self.says((5, 3, 9), pattern, text)
        for pattern, text in (("y", "2026"), ("m", "11"), ("d", "18"), ("Y", "2026"), ("M", "11"), ("D", "18")):
            self.says((2026, 11, 18), pattern, text)

    def test_side_by_side_and_more_than_once(self):
        self.says((5, 3, 9), "ymdYMD", "53900050309")
        self.says((5, 3, 9), "DDddYyMMmm", "0909990005503" + "0333")
        self.says((9999, 12, 31), "YYYYYYYYYYYY", "9999" * 12)

    def test_beside_other_letters_and_signs(self):
        self.says((2026, 1, 2), "D.M.Y", "02.01.2026")
        self.says((2026, 1, 2), "y/m/d", "2026/1/2")
        self.says((2026, 1, 2), "(day)", "(2a2026)")
        self.says((2026, 1, 2), "Monday", "01on2a2026")
        self.says((2026, 1, 2), "1x0~", "1x0~")

    def test_small_and_great_years(self):
        for y, short, long in ((0, "0", "0000"), (7, "7", "0007"), (42, "42", "0042"), (999, "999", "0999"),
                               (1000, "1000", "1000"), (9999, "9999", "9999")):
            self.says((y, 1, 1), "y", short)
            self.says((y, 1, 1), "Y", long)

    def test_each_month_and_day(self):
        for m in range(1, 13):
            for d in range(1, 32):
                self.says((1, m, d), "m-M-d-D", f"{m}-{m:02}-{d}-{d:02}")

    def test_the_other_parts_of_the_manner_do_nothing(self):
        self.assertEqual(said_day(("y", "Y", "y,m", ("d", "D")), (1234, 5, 6)), "1234,5")


if __name__ == "__main__":
    unittest.main()
