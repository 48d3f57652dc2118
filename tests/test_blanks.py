import unittest

from tests.bending import NAME, OTHERS, Says, bent, is_int, is_row_of, is_str, nested
from tests.oracle import seeded, some_blanks, some_given
from tonguehouse.blanks import are_blanks, are_given

TOP = 10 ** 12
NUMBER = ("n", "number", (0, 9, 0))
WORD = ("w", "word", (5, ("he", "she")))
DAY = ("when", "day", ())
GOOD = (
    (),
    (NUMBER,),
    (NUMBER, WORD),
    (DAY,),
    (("a", "day", ()), ("b", "number", (0, TOP, 2)), ("c", "number", (TOP, TOP, 1)), ("d", "word", (12, ("a",)))),
    (("abcdefgh", "word", (1, ("a", "b", "c", "d"))),),
    (("a", "number", (0, 0, 0)), ("aa", "number", (5, 5, 0)), ("b", "day", ())),
)


def plainly_blank(thing):
    if type(thing) is not tuple or len(thing) != 3 or not is_str(thing[0], NAME):
        return False
    name, sort, more = thing
    if not is_str(sort, "number|word|day") or type(more) is not tuple:
        return False
    if sort == "number":
        return len(more) == 3 and is_int(more[0], 0, TOP) and is_int(more[1], more[0], TOP) and is_int(more[2], 0, 2)
    if sort == "word":
        if len(more) != 2 or not is_int(more[0], 1, 12):
            return False
        return is_row_of(more[1], 1, 4, lambda kind: is_str(kind, NAME)) and len(set(more[1])) == len(more[1])
    return more == ()


def plainly_blanks(thing):
    if not is_row_of(thing, 0, 4, plainly_blank):
        return False
    names = [blank[0] for blank in thing]
    return names == sorted(set(names))


def plainly_for(blank, thing):
    name, sort, more = blank
    if type(thing) is not tuple:
        return False
    if sort == "number":
        return len(thing) == 2 and is_int(thing[0], more[0], more[1]) and type(thing[1]) is int and thing[1] == more[2]
    if sort == "word":
        return len(thing) == 2 and is_str(thing[0], "[a-z]{1,%d}" % more[0]) and is_str(thing[1], "|".join(more[1]))
    if len(thing) != 3:
        return False
    return is_int(thing[0], 0, 9999) and is_int(thing[1], 1, 12) and is_int(thing[2], 1, 31)


def plainly_given(blanks, thing):
    if type(thing) is not dict or set(thing) != {blank[0] for blank in blanks}:
        return False
    return not [1 for blank in blanks if not plainly_for(blank, thing[blank[0]])]


class AreBlanks(Says, unittest.TestCase):
    def one(self, sort, more, answer, name="a"):
        self.says(are_blanks, ((name, sort, more),), answer)

    def test_blanks_that_are_such(self):
        for blanks in GOOD:
            self.says(are_blanks, blanks, True)
        some = seeded(61)
        for time in range(100):
            self.says(are_blanks, some_blanks(some), True)

    def test_each_part_bent_at_any_depth(self):
        for blanks in GOOD:
            for thing in bent(blanks):
                self.says(are_blanks, thing, plainly_blanks(thing))

    def test_things_of_other_kinds(self):
        for thing in OTHERS:
            self.says(are_blanks, thing, thing == () and type(thing) is tuple)
        for thing in ([NUMBER], NUMBER, {"n": NUMBER}, "n", (list(NUMBER),), nested(23), (None,) * 1999,
                      (("a", "day", nested(20)),), (("a", nested(21), ()),)):
            self.says(are_blanks, thing, False)

    def test_sorts(self):
        for sort in ("Number", "count", "", None, 0, ("number",), ["number"], {}, True):
            for more in ((0, 9, 0), (5, ("he",)), ()):
                self.one(sort, more, False)
        self.one("number", (5, ("he",)), False)
        self.one("number", (), False)
        self.one("word", (0, 9, 0), False)
        self.one("word", (), False)
        self.one("day", (0, 9, 0), False)
        self.one("day", (5, ("he",)), False)
        for more in ([], None, "", {}, 0, ((),)):
            self.one("day", more, False)

    def test_bounds_of_a_number(self):
        for low, high, answer in ((0, 0, True), (TOP, TOP, True), (0, TOP, True), (-1, 0, False), (0, TOP + 1, False),
                                  (TOP + 1, TOP + 1, False), (5, 4, False), (1, 0, False), (TOP, TOP - 1, False)):
            for d in range(-1, 5):
                self.one("number", (low, high, d), answer and 0 <= d <= 2)
        for more in ((False, 1, 0), (0, True, 0), (0, 1, True), (0, 1, False), ("0", 1, 0), (0, None, 0), (0, 1, (0,)),
                     (0, 1), (0, 1, 0, 0), [0, 1, 0], ([0], 1, 0), (0, [1], 0), (0, (1,), 0)):
            self.one("number", more, False)

    def test_bounds_of_a_word(self):
        for most in range(-1, 15):
            self.one("word", (most, ("a",)), 1 <= most <= 12)
        for most in (True, None, "5", (5,)):
            self.one("word", (most, ("a",)), False)
        for more in ((5,), (5, ("a",), ()), [5, ("a",)], (5, ["a"]), (5, "a"), (5, {"a": 1}), (5, None)):
            self.one("word", more, False)

    def test_kinds(self):
        for kinds, answer in (((), False), (("a",), True), (("d", "c", "b", "a"), True), (tuple("abcde"), False),
                              (("a", "a"), False), (("a", "b", "a"), False), (("abcdefgh",), True), (("abcdefghi",), False),
                              (("",), False), (("A",), False), (("a", 1), False), (("a", ["b"]), False), ((None,), False)):
            self.one("word", (5, kinds), answer)

    def test_names(self):
        for name, answer in (("a", True), ("abcdefgh", True), ("abcdefghi", False), ("", False), ("A", False), ("a b", False),
                             ("a\n", False), (None, False), (1, False), (("a",), False), (["a"], False)):
            self.one("day", (), answer, name=name)

    def test_names_rise_and_are_unlike(self):
        for names, answer in (("ab", True), ("ba", False), ("aa", False), ("abc", True), ("acb", False), ("abb", False),
                              ("abca", False)):
            self.says(are_blanks, tuple([(name, "day", ()) for name in names]), answer)
        self.says(are_blanks, (("a", "day", ()), ("a", "number", (0, 1, 0))), False)
        self.says(are_blanks, (("a", "number", (0, 1, 0)), ("a", "number", (0, 2, 0))), False)
        self.says(are_blanks, (("b", "day", ()), ("aa", "word", (5, ("a",)))), False)

    def test_how_many(self):
        for many in range(7):
            self.says(are_blanks, tuple([(name, "day", ()) for name in "abcdefg"[:many]]), many <= 4)


class AreGiven(Says, unittest.TestCase):
    def asks(self, blanks, thing, answer):
        before = repr(blanks)
        self.says(lambda it: are_given(blanks, it), thing, answer)
        self.assertEqual(repr(blanks), before)

    def one(self, blank, thing, answer):
        self.asks((blank,), {blank[0]: thing}, answer)

    def test_things_that_are_such(self):
        self.asks((), {}, True)
        self.asks((NUMBER, WORD, DAY), {"n": (9, 0), "w": ("ann", "she"), "when": (2026, 11, 18)}, True)
        self.asks((NUMBER, WORD), {"w": ("ann", "she"), "n": (9, 0)}, True)
        some = seeded(62)
        for time in range(200):
            blanks = some_blanks(some)
            self.asks(blanks, some_given(some, blanks), True)

    def test_each_part_bent_at_any_depth(self):
        some = seeded(63)
        for time in range(60):
            blanks = some_blanks(some)
            for thing in bent(some_given(some, blanks)):
                self.asks(blanks, thing, plainly_given(blanks, thing))

    def test_things_of_other_kinds(self):
        for blanks in ((), (NUMBER,), (DAY, WORD)):
            for thing in OTHERS + ([], (), nested(23), [("n", (5, 0))], "n", {"b": None}):
                self.asks(blanks, thing, blanks == () and type(thing) is dict and thing == {})
        for thing in OTHERS + (nested(22), {"n": (5, 0)}):
            for blank in (NUMBER, WORD, DAY):
                self.one(blank, thing, False)

    def test_numbers_at_their_bounds_and_beyond(self):
        for n in range(0, 12):
            self.one(("n", "number", (3, 9, 0)), (n, 0), 3 <= n <= 9)
        self.one(("n", "number", (0, TOP, 2)), (TOP, 2), True)
        self.one(("n", "number", (0, TOP, 2)), (TOP + 1, 2), False)
        self.one(("n", "number", (0, TOP, 2)), (-1, 2), False)
        self.one(("n", "number", (0, TOP, 2)), (0, 2), True)

    def test_numbers_of_other_places(self):
        for d in range(3):
            for other in range(-1, 4):
                self.one(("n", "number", (0, 9, d)), (5, other), d == other)

    def test_truths_for_numbers_and_lists_for_tuples(self):
        for d in (0, 1):
            blank = ("n", "number", (0, 9, d))
            for thing in ((True, d), (False, d), (5, bool(d)), [5, d], (5,), (5, d, 0), ("5", d), (5, None), 5, "5"):
                self.one(blank, thing, False)
        for thing in (["ann", "she"], ("ann",), ("ann", "she", "she"), "ann", (["ann"], "she"), ("ann", ["she"]), {"ann": "she"}):
            self.one(WORD, thing, False)
        for thing in ([5, 5, 5], (True, 5, 5), (5, True, 5), (5, 5, True), (5, 5), (5, 5, 5, 5), ("5", 5, 5), (5, None, 5), ()):
            self.one(DAY, thing, False)

    def test_words(self):
        for text in ("a", "abcde", "zzzzz", "", "abcdef", "Ann", "a b", "a1", "a\n", "\xe9", None, 5, True):
            for kind in ("he", "she", "it", "", "He", None, 0):
                self.one(WORD, (text, kind), text in ("a", "abcde", "zzzzz") and kind in ("he", "she"))
        for most in range(1, 13):
            blank = ("w", "word", (most, ("he",)))
            self.one(blank, ("a" * most, "he"), True)
            self.one(blank, ("a" * (most + 1), "he"), False)

    def test_days_at_and_beyond_their_bounds(self):
        for y in (-1, 0, 1, 9999, 10000):
            for m in (0, 1, 12, 13):
                for d in (0, 1, 31, 32):
                    self.one(DAY, (y, m, d), y in (0, 1, 9999) and m in (1, 12) and d in (1, 31))
        self.one(DAY, (2023, 2, 31), True)

    def test_names_that_lack_and_names_more(self):
        blanks = (NUMBER, WORD)
        self.asks(blanks, {"n": (5, 0), "w": ("ann", "he")}, True)
        self.asks(blanks, {"n": (5, 0)}, False)
        self.asks(blanks, {"w": ("ann", "he")}, False)
        self.asks(blanks, {}, False)
        self.asks(blanks, {"n": (5, 0), "w": ("ann", "he"), "x": (5, 0)}, False)
        self.asks(blanks, {"n": (5, 0), "x": ("ann", "he")}, False)
        self.asks((), {"n": (5, 0)}, False)
        self.asks(blanks, {"n": ("ann", "he"), "w": (5, 0)}, False)


if __name__ == "__main__":
    unittest.main()
