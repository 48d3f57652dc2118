import unittest

from tests.bending import OTHERS, Says, bent, nested
from tests.oracle import ALWAYS, ENGLISH, NEVER, seeded, some_forms, words_of
from tonguehouse.counts import forms_of, is_count, is_forms, parts_of

TEST = ("whole", 10, 2, 4, True)
GOOD = (
    ENGLISH,
    (("a", NEVER),),
    (("abcdefgh", ALWAYS),),
    (("a", ((TEST,) * 4,) * 4),),
    tuple([(word, ALWAYS) for word in "abcdef"]),
    (("a", ((("rest", 0, 0, 200, False), ("places", 2, 200, 200, True)),)),),
    (("a", ((("whole", 60, 0, 0, True), ("rest", 24, 0, 0, True), ("places", 40, 1, 1, True)),)),),
)


def form_with(test):
    return (("a", ((test,),)),)


def plainly_forms(thing):
    """Whether it is forms, told by its kinds and bounds in another way than the package does."""
    try:
        return type(thing) is tuple and 1 <= len(thing) <= 6 and forms_are_right(thing)
    except (TypeError, ValueError, AttributeError):
        return False


def forms_are_right(thing):
    words, bys = [], []
    for form in thing:
        word, rule = form
        words.append(word)
        if type(form) is not tuple or type(rule) is not tuple or len(rule) > 4 or type(word) is not str:
            return False
        if not 1 <= len(word) <= 8 or word.strip("abcdefghijklmnopqrstuvwxyz"):
            return False
        for row in rule:
            if type(row) is not tuple or len(row) > 4:
                return False
            for test in row:
                what, by, low, high, yes = test
                bys.append(by)
                if type(test) is not tuple or [type(part) for part in test] != [str, int, int, int, bool]:
                    return False
                if what not in ("whole", "rest", "places") or by not in (0, *range(2, 61)):
                    return False
                if not 0 <= low <= high <= 200:
                    return False
    rounds = [many for many in range(1, 121) if not [by for by in bys if by and many % by]]
    return len(words) == len(set(words)) and bool(rounds)


class IsForms(Says, unittest.TestCase):
    def test_forms_that_are_such(self):
        for forms in GOOD:
            self.says(is_forms, forms, True)
        some = seeded(5)
        for time in range(200):
            self.says(is_forms, some_forms(some), True)

    def test_things_of_other_kinds(self):
        for thing in OTHERS + (("a", ALWAYS), [("a", ALWAYS)], {"a": ALWAYS}, "forms"):
            self.says(is_forms, thing, False)

    def test_each_part_bent_at_any_depth(self):
        for forms in GOOD:
            for thing in bent(forms):
                self.says(is_forms, thing, plainly_forms(thing))

    def test_lists_for_tuples(self):
        self.says(is_forms, [("a", ((TEST,),))], False)
        self.says(is_forms, (["a", ((TEST,),)],), False)
        self.says(is_forms, (("a", [(TEST,)]),), False)
        self.says(is_forms, (("a", ([TEST],)),), False)
        self.says(is_forms, (("a", ((list(TEST),),)),), False)

    def test_truths_for_numbers_and_numbers_for_truths(self):
        for test in (("whole", False, 0, 1, True), ("whole", 0, False, 1, True), ("whole", 0, 0, True, True),
                     ("whole", 0, 0, 1, 1), ("whole", 0, 0, 1, 0), ("whole", 0, 0, 1, None)):
            self.says(is_forms, form_with(test), False)

    def test_what(self):
        for what in ("whole", "rest", "places"):
            self.says(is_forms, form_with((what, 0, 0, 1, True)), True)
        for what in ("", "Whole", "n", None, 0, ("whole",), ["whole"], {}):
            self.says(is_forms, form_with((what, 0, 0, 1, True)), False)

    def test_bounds_of_by(self):
        for by in range(-2, 64):
            self.says(is_forms, form_with(("whole", by, 0, 1, True)), by == 0 or 2 <= by <= 60)

    def test_bounds_of_low_and_high(self):
        for low, high, answer in ((0, 0, True), (200, 200, True), (0, 200, True), (-1, 5, False), (0, 201, False),
                                  (201, 201, False), (5, 4, False), (5, 5, True), (0, -1, False), (0, 10 ** 39, False)):
            self.says(is_forms, form_with(("rest", 0, low, high, False)), answer)

    def test_how_long_a_test_is(self):
        self.says(is_forms, form_with(TEST[:4]), False)
        self.says(is_forms, form_with(TEST + (True,)), False)

    def test_least_common_multiple_of_all_by(self):
        for bys, answer in (((24, 40), True), ((8, 15), True), ((60, 8), True), ((60, 16), False), ((11, 11), True),
                            ((11, 12), False), ((2, 3, 4, 5), True), ((2, 3, 5, 7), False), ((59, 0), True),
                            ((59, 2), True), ((59, 3), False), ((41, 3), False), ((17, 7), True)):
            across = tuple([(word, ((("whole", by, 0, 1, True),),)) for word, by in zip("abcd", bys)])
            in_rows = (("a", tuple([(("rest", by, 0, 1, True),) for by in bys])),)
            in_tests = (("a", (tuple([("places", by, 0, 1, True) for by in bys]),)),)
            for forms in (across, in_rows, in_tests):
                self.says(is_forms, forms, answer)
        self.says(is_forms, (("a", ((("whole", 11, 0, 1, True),),)), ("b", ((("rest", 12, 0, 1, True),),))), False)

    def test_words_are_unlike_names(self):
        self.says(is_forms, (("a", ALWAYS), ("a", NEVER)), False)
        self.says(is_forms, (("a", ALWAYS), ("b", NEVER), ("a", ((TEST,),))), False)
        for word in ("", "abcdefghi", "A", "a1", "a b", "a\n", "\xe9", None, True, 0, ("a",), ["a"], {"a": 1}):
            self.says(is_forms, ((word, ALWAYS),), False)

    def test_how_many_forms_rows_and_tests(self):
        self.says(is_forms, (), False)
        self.says(is_forms, tuple([(word, ALWAYS) for word in "abcdefg"]), False)
        self.says(is_forms, (("a", ((),) * 5),), False)
        self.says(is_forms, (("a", ((TEST,) * 5,)),), False)
        self.says(is_forms, (("a",),), False)
        self.says(is_forms, (("a", ALWAYS, ALWAYS),), False)

    def test_deep_and_wide_things(self):
        self.says(is_forms, nested(23), False)
        self.says(is_forms, (("a", nested(21)),), False)
        self.says(is_forms, (None,) * 1999, False)


class IsCount(unittest.TestCase):
    def test_counts(self):
        for thing in ((0, 0), (10 ** 12, 2), (5, 1)):
            self.assertIs(is_count(thing), True)
        for thing in ((-1, 0), (10 ** 12 + 1, 0), (0, 3), (0, -1), (True, 0), (0, False), [0, 0], (0,), (0, 0, 0),
                      ("0", 0), (None, None), None, 5, "", {}):
            self.assertIs(is_count(thing), False)


class FormsOf(unittest.TestCase):
    def test_whole_rest_and_places(self):
        for count, whole, rest in (((1234, 0), 1234, 0), ((1234, 1), 123, 4), ((1234, 2), 12, 34), ((7, 2), 0, 7),
                                   ((0, 1), 0, 0), ((10 ** 12, 2), 10 ** 10, 0), ((10 ** 12 - 1, 1), 10 ** 11 - 1, 9)):
            self.assertEqual(parts_of(count), {"whole": whole, "rest": rest, "places": count[1]})

    def test_english(self):
        for count, words in (((1, 0), ("one",)), ((0, 0), ("other",)), ((2, 0), ("other",)), ((10, 1), ("other",)),
                             ((1, 1), ("other",)), ((100, 2), ("other",)), ((10 ** 12, 0), ("other",))):
            self.assertEqual(forms_of(ENGLISH, count), words)

    def test_at_the_bounds_of_tests(self):
        inside = form_with(("whole", 0, 3, 5, True))
        outside = form_with(("whole", 0, 3, 5, False))
        for n in range(10):
            self.assertEqual(forms_of(inside, (n, 0)), ("a",) if 3 <= n <= 5 else ())
            self.assertEqual(forms_of(outside, (n, 0)), () if 3 <= n <= 5 else ("a",))
        widest = form_with(("whole", 0, 200, 200, True))
        self.assertEqual([n for n in range(400) if forms_of(widest, (n, 0))], [200])
        self.assertEqual([n for n in range(30000) if forms_of(widest, (n, 2))], list(range(20000, 20100)))

    def test_by_takes_what_is_left(self):
        forms = form_with(("whole", 10, 2, 4, True))
        for n in (2, 4, 12, 202, 10 ** 12 - 8, 10 ** 12 - 6):
            self.assertEqual(forms_of(forms, (n, 0)), ("a",))
        for n in (0, 1, 5, 11, 201, 10 ** 12, 10 ** 12 - 9):
            self.assertEqual(forms_of(forms, (n, 0)), ())
        self.assertEqual(forms_of(form_with(("rest", 10, 5, 5, True)), (1295, 2)), ("a",))
        self.assertEqual(forms_of(form_with(("places", 2, 0, 0, True)), (1295, 2)), ("a",))
        self.assertEqual(forms_of(form_with(("places", 2, 0, 0, True)), (1295, 1)), ())
        self.assertEqual(forms_of(form_with(("places", 0, 2, 2, True)), (1295, 2)), ("a",))

    def test_a_form_without_rows_and_a_row_without_tests(self):
        forms = (("never", NEVER), ("always", ALWAYS), ("also", ((TEST,), ())))
        for count in ((0, 0), (3, 1), (10 ** 12, 2)):
            self.assertEqual(forms_of(forms, count), ("always", "also"))

    def test_all_tests_of_one_row(self):
        forms = (("a", ((("whole", 2, 0, 0, True), ("whole", 3, 0, 0, True)), (("whole", 0, 1, 1, True),))),)
        self.assertEqual([n for n in range(14) if forms_of(forms, (n, 0))], [0, 1, 6, 12])

    def test_the_words_come_in_order(self):
        forms = (("zero", ALWAYS), ("few", NEVER), ("many", ALWAYS), ("all", ALWAYS))
        self.assertEqual(forms_of(forms, (5, 0)), ("zero", "many", "all"))
        self.assertEqual(forms_of(forms[::-1], (5, 0)), ("all", "many", "zero"))

    def test_some_forms_and_counts_as_the_words_say(self):
        some = seeded(11)
        for time in range(150):
            forms = some_forms(some)
            before = repr(forms)
            for turn in range(30):
                d = some.randint(0, 2)
                n = some.choice((some.randint(0, 12), some.randint(0, 400 * 10 ** d), some.randint(0, 10 ** 12)))
                words = forms_of(forms, (n, d))
                self.assertIsInstance(words, tuple)
                self.assertEqual(words, words_of(forms, n, d))
                self.assertEqual(words, forms_of(forms, (n, d)))
            self.assertEqual(repr(forms), before)


if __name__ == "__main__":
    unittest.main()
