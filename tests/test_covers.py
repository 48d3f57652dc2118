import unittest

from tests.oracle import ALWAYS, ENGLISH, FAR_END, MANY_RESTS, NEVER
from tests.oracle import first_amiss, last_so, seeded, some_forms, some_split, words_of
from tonguehouse.covers import cover, cover_holds, last_with

WHOLE = (("few", ((("whole", 0, 0, 200, True),),)), ("many", ((("whole", 0, 0, 200, False),),)))
ONLY_PLAIN = (("plain", ((("places", 0, 0, 0, True),),)),)
NOT_TWO_PLACES = (("a", ((("places", 0, 0, 1, True),),)),)
ONE_REST = (("a", ALWAYS), ("b", ((("rest", 0, 77, 77, True), ("whole", 0, 3, 3, True)),)))


class Cover(unittest.TestCase):
    def test_forms_that_cover(self):
        for forms in (ENGLISH, WHOLE, MANY_RESTS, (("a", ALWAYS),), (("a", NEVER), ("b", ALWAYS))):
            self.assertEqual(cover(forms), ("just",))
            self.assertEqual(first_amiss(forms), ("just",))

    def test_counts_without_a_form(self):
        self.assertEqual(cover((("a", NEVER),)), ("none", (0, 0)))
        self.assertEqual(cover((("a", ((("whole", 0, 3, 3, False),),)),)), ("none", (3, 0)))
        self.assertEqual(cover(WHOLE[:1]), ("none", (201, 0)))
        self.assertEqual(cover(WHOLE[1:]), ("none", (0, 0)))

    def test_counts_with_two_forms(self):
        self.assertEqual(cover((("a", ALWAYS), ("b", ALWAYS))), ("two", (0, 0)))
        self.assertEqual(cover((("a", ALWAYS), ("b", ((("whole", 7, 6, 6, True),),)))), ("two", (6, 0)))
        three = (("a", ALWAYS), ("b", ALWAYS), ("c", ALWAYS))
        self.assertEqual(cover(three), ("two", (0, 0)))

    def test_two_rows_of_one_form_are_one_form(self):
        self.assertEqual(cover((("a", ((), ())),)), ("just",))

    def test_only_far_counts(self):
        self.assertEqual(cover(FAR_END), ("none", (320, 0)))
        self.assertEqual(cover((("a", ALWAYS), ("b", ((("whole", 0, 0, 200, False), ("whole", 60, 20, 20, True)),)))),
                         ("two", (260, 0)))
        self.assertEqual(cover((("a", ALWAYS), ("b", ((("whole", 0, 200, 200, True),),)))), ("two", (200, 0)))

    def test_only_counts_with_some_places(self):
        self.assertEqual(cover(ONLY_PLAIN), ("none", (0, 1)))
        self.assertEqual(cover(NOT_TWO_PLACES), ("none", (0, 2)))
        self.assertEqual(cover(ONE_REST), ("two", (377, 2)))
        far = (("a", ((("whole", 0, 0, 200, True),), (("rest", 0, 99, 99, False),), (("whole", 60, 0, 0, False),))),)
        self.assertEqual(cover(far), ("none", (24099, 2)))

    def test_the_first_count_is_by_places_then_by_n(self):
        gap = ("whole", 0, 100, 100, True)
        forms = (("a", ((("places", 0, 1, 2, True),), (("whole", 0, 100, 100, False),))), ("b", ((gap,),)))
        self.assertEqual(cover(forms), ("two", (1000, 1)))
        forms = (("a", ((("places", 0, 0, 0, True), ("whole", 0, 150, 150, False)),)),)
        self.assertEqual(cover(forms), ("none", (150, 0)))
        forms = (("a", ALWAYS), ("b", ((("rest", 0, 5, 5, True), ("whole", 0, 2, 9, True)),
                                       (("rest", 0, 9, 9, True), ("whole", 0, 1, 1, True)))))
        self.assertEqual(cover(forms), ("two", (19, 1)))

    def test_some_forms_as_a_walk_through_all_counts_says(self):
        some = seeded(21)
        for time in range(250):
            forms = some_forms(some)
            self.assertEqual(cover(forms), first_amiss(forms), forms)

    def test_some_splits_cover_and_with_a_change_are_as_a_walk_says(self):
        some = seeded(22)
        for time in range(300):
            forms = some_split(some)
            before = repr(forms)
            self.assertEqual(cover(forms), ("just",), forms)
            self.assertEqual(cover(forms), ("just",), forms)
            self.assertEqual(repr(forms), before)
            if time < 40:
                at = some.randrange(len(forms))
                other = some_split(some)[0][1]
                changed = forms[:at] + ((forms[at][0], other),) + forms[at + 1:]
                self.assertEqual(cover(changed), first_amiss(changed), changed)


class CoverHolds(unittest.TestCase):
    def says(self, forms, thing, answer):
        before = repr((forms, thing))
        self.assertIs(cover_holds(forms, thing), answer, (forms, thing))
        self.assertEqual(repr((forms, thing)), before)

    def test_just(self):
        for forms in (ENGLISH, WHOLE, MANY_RESTS):
            self.says(forms, ("just",), True)
        for forms in (FAR_END, ONLY_PLAIN, NOT_TWO_PLACES, ONE_REST, WHOLE[:1], (("a", NEVER),)):
            self.says(forms, ("just",), False)

    def test_none(self):
        self.says(WHOLE[:1], ("none", (201, 0)), True)
        self.says(WHOLE[:1], ("none", (10 ** 12, 0)), True)
        self.says(WHOLE[:1], ("none", (10 ** 12, 2)), True)
        self.says(WHOLE[:1], ("none", (20100, 2)), True)
        self.says(WHOLE[:1], ("none", (20099, 2)), False)
        self.says(WHOLE[:1], ("none", (200, 0)), False)
        self.says(WHOLE[:1], ("two", (201, 0)), False)
        self.says(ENGLISH, ("none", (1, 0)), False)
        self.says(FAR_END, ("none", (320 + 120 * 10 ** 9, 0)), True)
        self.says(FAR_END, ("none", (319 + 120 * 10 ** 9, 0)), False)

    def test_two(self):
        self.says(ONE_REST, ("two", (377, 2)), True)
        self.says(ONE_REST, ("two", (376, 2)), False)
        self.says(ONE_REST, ("two", (377, 1)), False)
        self.says(ONE_REST, ("none", (377, 2)), False)
        three = (("a", ALWAYS), ("b", ALWAYS), ("c", ((("whole", 0, 5, 5, True),),)))
        for n in (0, 5, 10 ** 12):
            self.says(three, ("two", (n, 0)), True)

    def test_just_with_a_count_and_words_without(self):
        forms = (("a", NEVER),)
        self.says(forms, ("none", (0, 0)), True)
        self.says(ENGLISH, ("just", (0, 0)), False)
        for thing in (("none",), ("two",), ("just", ()), ("just", None), (), ("none", (0, 0), None), ("none", 0, 0)):
            self.says(forms, thing, False)
            self.says(ENGLISH, thing, False)

    def test_things_of_any_other_kind(self):
        none, two = (("a", NEVER),), (("a", ALWAYS), ("b", ALWAYS))
        counts = ([0, 0], (0,), (0, 0, 0), (True, 0), (False, 0), (0, False), (0, True), (-1, 0), (0, 3), (0, -1),
                  (10 ** 12 + 1, 0), (10 ** 39, 0), ("0", 0), (0, "0"), (None, 0), (0, None), ((0,), 0), None, 0, "", {},
                  {"n": 0, "d": 0}, ())
        for count in counts:
            self.says(none, ("none", count), False)
            self.says(two, ("two", count), False)
        for word in ("None", "nones", "", None, 0, True, ("none",), ["none"], {"none": 0}):
            self.says(none, (word, (0, 0)), False)
            self.says(ENGLISH, (word,), False)
        for thing in (["just"], "just", {"just": None}, None, True, False, 0, 5, ["none", (0, 0)], [], {}, (("just",),),
                      (["just"],), ("Just",), ("just\n",)):
            for forms in (none, two, ENGLISH):
                self.says(forms, thing, False)

    def test_deep_things(self):
        deep = ()
        for time in range(23):
            deep = (deep,)
        for thing in (deep, ("none", deep), ("none", (deep, 0))):
            self.says((("a", NEVER),), thing, False)

    def test_some_papers_as_the_words_say(self):
        some = seeded(31)
        for time in range(200):
            forms = some_forms(some)
            self.says(forms, cover(forms), True)
            for turn in range(10):
                d = some.randint(0, 2)
                n = some.choice((some.randint(0, 400 * 10 ** d), some.randint(0, 10 ** 12)))
                many = len(words_of(forms, n, d))
                self.says(forms, ("none", (n, d)), many == 0)
                self.says(forms, ("two", (n, d)), many >= 2)


class LastWith(unittest.TestCase):
    def test_short_ranges(self):
        self.assertEqual(last_with(ENGLISH, "one", 0, 5, 0), 1)
        self.assertEqual(last_with(ENGLISH, "other", 0, 5, 0), 5)
        self.assertEqual(last_with(ENGLISH, "other", 0, 1, 0), 0)
        self.assertEqual(last_with(ENGLISH, "one", 1, 1, 0), 1)
        self.assertIsNone(last_with(ENGLISH, "one", 2, 5, 0))
        self.assertIsNone(last_with(ENGLISH, "one", 0, 0, 0))
        self.assertIsNone(last_with(ENGLISH, "other", 1, 1, 0))
        self.assertEqual(last_with(ENGLISH, "other", 1, 1, 1), 1)

    def test_long_and_far_ranges(self):
        top = 10 ** 12
        self.assertEqual(last_with(ENGLISH, "one", 0, top, 0), 1)
        self.assertEqual(last_with(ENGLISH, "other", 0, top, 0), top)
        self.assertEqual(last_with(ENGLISH, "other", top, top, 2), top)
        self.assertEqual(last_with(WHOLE, "few", 0, top, 0), 200)
        self.assertEqual(last_with(WHOLE, "few", 0, top, 1), 2009)
        self.assertEqual(last_with(WHOLE, "few", 0, top, 2), 20099)
        self.assertIsNone(last_with(WHOLE, "few", 201, top, 0))
        self.assertIsNone(last_with(WHOLE, "few", 20100, top, 2))
        self.assertEqual(last_with(MANY_RESTS, "odd", 0, top, 2), top - 101 + 100)
        self.assertEqual(last_with(MANY_RESTS, "even", 0, top, 2), top - 101)
        self.assertEqual(last_with(MANY_RESTS, "tenth", 0, top - 11, 2), top - 20)

    def test_rounds_of_120(self):
        odd = (("a", ((("whole", 24, 8, 8, True), ("whole", 40, 0, 0, True)),)), ("b", ALWAYS))
        self.assertEqual(last_with(odd, "a", 0, 10 ** 12, 0), 10 ** 12 - (10 ** 12 - 80) % 120)
        self.assertEqual(last_with(odd, "a", 0, 319, 0), 200)
        self.assertEqual(last_with(odd, "a", 0, 320, 0), 320)
        self.assertEqual(last_with(odd, "a", 0, 32000, 2), 32000)
        self.assertEqual(last_with(odd, "a", 0, 31999, 2), 20099)
        self.assertEqual(last_with(odd, "a", 320, 439, 0), 320)
        self.assertIsNone(last_with(odd, "a", 321, 439, 0))

    def test_empty_ranges(self):
        for low, high in ((1, 0), (305, 105), (10 ** 12, 0), (10 ** 12, 10 ** 12 - 1)):
            for d in range(3):
                self.assertIsNone(last_with((("a", ALWAYS),), "a", low, high, d))

    def test_a_word_that_no_form_has(self):
        for d in range(3):
            self.assertIsNone(last_with(ENGLISH, "few", 0, 10 ** 12, d))
        self.assertIsNone(last_with((("a", NEVER),), "a", 0, 10 ** 12, 0))

    def test_a_form_that_is_not_the_first_of_several_that_hold(self):
        forms = (("a", ((("whole", 0, 5, 200, True),),)), ("b", ALWAYS), ("c", ALWAYS))
        self.assertEqual(last_with(forms, "b", 0, 100, 0), 4)
        self.assertEqual(last_with(forms, "b", 0, 300, 0), 300)
        self.assertIsNone(last_with(forms, "b", 5, 100, 0))
        self.assertIsNone(last_with(forms, "c", 0, 10 ** 12, 0))

    def test_ranges_that_begin_and_end_within_a_whole(self):
        fives = (("a", ((("rest", 0, 50, 50, True),),)), ("b", ALWAYS))
        self.assertEqual(last_with(fives, "a", 0, 749, 2), 650)
        self.assertEqual(last_with(fives, "a", 650, 749, 2), 650)
        self.assertEqual(last_with(fives, "a", 650, 750, 2), 750)
        self.assertIsNone(last_with(fives, "a", 651, 749, 2))
        self.assertIsNone(last_with(fives, "a", 710, 720, 2))
        self.assertEqual(last_with(fives, "a", 750, 750, 2), 750)
        self.assertIsNone(last_with(fives, "a", 0, 10 ** 12, 1))
        three = (("a", ((("whole", 0, 3, 3, True),),)),)
        self.assertEqual(last_with(three, "a", 350, 999, 2), 399)
        self.assertEqual(last_with(three, "a", 350, 360, 2), 360)

    def test_some_forms_as_a_walk_through_the_range_says(self):
        some = seeded(41)
        for time in range(500):
            forms = some.choice((some_forms, some_split))(some)
            before = repr(forms)
            d = some.randint(0, 2)
            low = some.choice((0, some.randint(0, 330 * 10 ** d), some.randint(0, 10 ** 12)))
            high = low + some.choice((0, some.randint(0, 20), some.randint(0, 400 * 10 ** min(d, 1))))
            word = some.choice(forms)[0]
            told = last_with(forms, word, low, high, d)
            self.assertEqual(told, last_so(forms, word, low, high, d), (forms, word, low, high, d))
            self.assertEqual(told, last_with(forms, word, low, high, d))
            self.assertEqual(repr(forms), before)


if __name__ == "__main__":
    unittest.main()
