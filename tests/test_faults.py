import unittest

from tests.bending import OTHERS, SIGN, Says, bent, is_row_of, is_str, nested
from tests.oracle import ENGLISH, MANY_RESTS, lines_of, seeded, some_blanks, some_given, some_measure
from tests.oracle_pieces import all_given, all_paths, few_blank, piece_at, plain_said, some_pieces, some_tongue
from tests.test_pieces import plainly_pieces
from tonguehouse.blanks import are_given
from tonguehouse.faults import are_terms, faults, is_fault

MANNER = (",", ".", "D/M/Y", ("<<", ">>"))
TONGUE = (ENGLISH, MANNER)
BLANKS = (("day", "day", ()), ("n", "number", (0, 9, 0)), ("p", "number", (0, 99, 1)), ("who", "word", (5, ("he", "she"))))
ROOM = (40, 2)
BY = ("by", "n", (("one", ("a file",)), ("other", (("say", "n"), " files"))))
PIECES = ("The ", BY, ("quote", ("of ", ("say", "who"))))
SOURCE = ("src", BLANKS, PIECES, ROOM)
FULL = tuple([(letter, letter) for letter in "abcdef"])
GOOD_TERMS = ((), (("a", "b"),), FULL, (("a" * 12, "b" * 12), ("a" * 12, "b" * 12)), ((" ~", "{}|\\"), ("a", "a")))


def plainly_terms(thing):
    return is_row_of(thing, 0, 6, lambda pair: is_row_of(pair, 2, 2, lambda text: is_str(text, SIGN + "{1,12}")))


class AreTerms(Says, unittest.TestCase):
    def test_terms_that_are_such(self):
        for terms in GOOD_TERMS:
            self.says(are_terms, terms, True)

    def test_none_six_and_seven_pairs(self):
        for many in range(9):
            self.says(are_terms, (("a", "b"),) * many, many <= 6)

    def test_texts_of_0_1_12_and_13_signs(self):
        for many in (0, 1, 12, 13, 300):
            for pair in (("a" * many, "b"), ("b", "a" * many)):
                self.says(are_terms, (pair,), 1 <= many <= 12)
                self.says(are_terms, (("a", "b"), pair), 1 <= many <= 12)

    def test_signs_that_no_text_may_have(self):
        for text in ("a\nb", "\t", "\x25", "50\x25", "\xe9", "\x7f", "\x1f", "\u20ac"):
            self.says(are_terms, ((text, "a"),), False)
            self.says(are_terms, (("a", text),), False)
        for sign in " ~!$&\\{}|\"'09AZ":
            self.says(are_terms, ((sign, sign),), True)

    def test_lists_for_tuples_and_pairs_of_another_length(self):
        for thing in ([("a", "b")], (["a", "b"],), (("a", ["b"]),), (("a",),), (("a", "b", "c"),), ((),), ("a", "b"), ("ab",),
                      {"a": "b"}, ({"a": "b"},), "ab", (("a", "b"), None), ((("a", "b"),),)):
            self.says(are_terms, thing, False)

    def test_things_of_other_kinds(self):
        for thing in OTHERS + (nested(23), (None,) * 1999, (("a", nested(20)),)):
            self.says(are_terms, thing, plainly_terms(thing))

    def test_each_part_bent_at_any_depth(self):
        for terms in GOOD_TERMS:
            for thing in bent(terms):
                self.says(are_terms, thing, plainly_terms(thing))


class Asks(unittest.TestCase):
    """Asks for faults and looks whether each of them is one."""

    def found(self, pieces, source=SOURCE, terms=(), tongue=TONGUE, measure=()):
        before = repr((measure, tongue, terms, source, pieces))
        told = faults(measure, tongue, terms, source, pieces)
        self.assertIs(type(told), tuple)
        self.assertEqual(faults(measure, tongue, terms, source, pieces), told)
        for fault in told:
            self.assertIs(is_fault(measure, tongue, terms, source, pieces, fault), True, fault)
        for other in OTHERS + (("pieces",), ("lacks", (0,)), ("blank", "n"), ("term", 0), ("room", {})):
            if other not in told:
                self.assertIs(is_fault(measure, tongue, terms, source, pieces, other), False, other)
        self.assertEqual(repr((measure, tongue, terms, source, pieces)), before)
        return told

    def tells(self, pieces, told, **more):
        self.assertEqual(self.found(pieces, **more), told)

    def tells_room(self, pieces, source=SOURCE, terms=(), tongue=TONGUE, measure=()):
        (word, given), = self.found(pieces, source=source, terms=terms, tongue=tongue, measure=measure)
        self.assertEqual(word, "room")
        self.assertTrue(are_given(source[1], given), given)
        lines = lines_of(measure, source[3][0], plain_said(tongue, pieces, given))
        self.assertTrue(lines is None or len(lines) > source[3][1])
        given["further"] = 1
        self.assertNotIn("further", faults(measure, tongue, terms, source, pieces)[0][1])


class Faults(Asks):
    def test_nothing_is_wrong(self):
        self.tells(PIECES, ())
        self.tells((("say", "who"), ("say", "n")), ())
        self.tells((), (), source=("a", BLANKS, ("x",), ROOM))
        self.tells((), (), source=("a", (), (), (1, 1)))

    def test_no_pieces(self):
        for thing in OTHERS + ("The ", list(PIECES), PIECES + ("",), PIECES + ("a" * 41,), ("a",) * 9, (("say", "x"),),
                               (("by", "day", (("one", ()),)),), (list(BY),), nested(23), (None,) * 1999):
            if thing != ():
                self.tells(thing, (("pieces",),), terms=(("The", "x"),))
        self.tells((("say", "n"),), (("pieces",),), source=("a", (), ("x",), ROOM))

    def test_no_pieces_stands_alone(self):
        wrong = (("by", "n", (("one", ()),)), ("say", "day"), "")
        self.tells(wrong, (("pieces",),), terms=(("The", "x"),))

    def test_each_part_of_pieces_bent(self):
        for thing in bent(PIECES):
            told = faults((), TONGUE, (), SOURCE, thing)
            self.assertEqual(told == (("pieces",),), not plainly_pieces(BLANKS, thing), thing)

    def test_lacks_with_each_path(self):
        bad = ("by", "n", (("one", ()),))
        source = ("a", BLANKS, (("say", "n"), ("say", "who")), ROOM)
        self.tells((bad, ("say", "who")), (("lacks", (0,)),), source=source)
        around = ("by", "who", (("he", (bad, bad)), ("it", ("a", ("quote", (bad,))))))
        paths = ((0,), (1,), (1, 0, 0), (1, 0, 1), (1, 1, 1, 0), (2,))
        self.tells((bad, around, bad), tuple([("lacks", path) for path in paths]), source=source)
        self.tells(PIECES, (("lacks", (1,)),), tongue=(MANY_RESTS, MANNER))

    def test_blanks_that_just_one_of_both_uses(self):
        self.tells((BY,), (("blank", "who"),))
        self.tells((("say", "who"),), (("blank", "n"),))
        self.tells((), (("blank", "n"), ("blank", "who")))
        self.tells(PIECES + (("say", "day"),), (("blank", "day"),))
        self.tells((("say", "p"), ("say", "day")), tuple([("blank", name) for name in ("day", "n", "p", "who")]))
        self.tells((("say", "n"), ("by", "who", (("he", (("say", "p"),)), ("she", ())))), (("blank", "p"),))
        self.tells((("quote", (("say", "who"), ("say", "who"))), ("say", "n"), ("say", "n")), ())

    def test_a_blank_that_both_or_neither_use_is_right(self):
        source = ("a", BLANKS, (("by", "who", (("he", ()), ("she", ()))),), ROOM)
        self.tells((("say", "who"),), (), source=source)

    def test_terms(self):
        self.tells(PIECES, (("term", 0),), terms=(("The", "Der"),))
        self.tells(PIECES, (), terms=(("Der", "Das"),))
        self.tells(("Der",) + PIECES, (), terms=(("The", "Der"),))
        terms = (("The", "Der"), ("none", "x"), ("of", "von"), ("file", "file"), ("files", "Datei"), ("The", "Der"))
        self.tells(PIECES, tuple([("term", k) for k in (0, 2, 4, 5)]), terms=terms)

    def test_terms_at_any_depth_of_both(self):
        inner = ("by", "n", (("one", ("deep",)), ("other", (("quote", ("deeper", ("say", "who"))),))))
        source = ("a", BLANKS, (inner,), ROOM)
        self.tells(("x", ("say", "n"), ("say", "who")), (("term", 0), ("term", 1)), source=source,
                   terms=(("deep", "tief"), ("deeper", "tiefer"), ("dep", "t")))
        told = ("by", "n", (("one", (("quote", ("tiefer",)),)), ("other", (("say", "who"),))))
        self.tells((told,), (), source=source, terms=(("deep", "tief"), ("deeper", "tiefer"), ("dep", "t")))

    def test_a_term_stands_in_one_text_not_over_two(self):
        source = ("a", (), ("ab", "cd", ("quote", ("e",))), ROOM)
        self.tells(("x",), (), source=source, terms=(("bc", "z"), ("de", "z"), ("abcd", "z")))
        self.tells(("x",), (("term", 0), ("term", 1)), source=source, terms=(("ab", "z"), ("e", "z")))
        self.tells(("y", "z"), (("term", 0),), source=source, terms=(("ab", "yz"),))
        self.tells(("yz",), (), source=source, terms=(("ab", "yz"),))

    def test_words_and_names_are_no_texts(self):
        self.tells(PIECES, (), terms=(("other", "z"), ("who", "z"), ("quote", "z"), ("say", "z")))
        self.tells(PIECES, (("term", 0),), terms=(("The", "one"),))

    def test_signs_of_terms_are_taken_as_they_are(self):
        source = ("a", (), ("a.c [x] {",), ROOM)
        self.tells(("b",), (("term", 1), ("term", 2)), source=source, terms=(("A", "z"), ("[x]", "z"), ("{", "z"), ("abc", "z")))

    def test_several_at_once_in_the_order_told(self):
        bad = ("by", "n", (("one", ()),))
        pieces = (bad, ("quote", (bad,)), ("say", "day"))
        told = (("lacks", (0,)), ("lacks", (1, 0)), ("blank", "day"), ("blank", "who"), ("term", 0), ("term", 2))
        self.tells(pieces, told, terms=(("The", "x"), ("y", "x"), ("file", "x")), source=SOURCE[:3] + ((1, 1),))

    def test_room_only_where_nothing_else_is_wrong(self):
        narrow = SOURCE[:3] + ((3, 1),)
        self.tells_room(PIECES, source=narrow)
        self.tells(PIECES, (("term", 0),), source=narrow, terms=(("The", "x"),))
        self.tells(PIECES[:2], (("blank", "who"),), source=narrow)
        self.tells(PIECES, (("lacks", (1,)),), source=narrow, tongue=(MANY_RESTS, MANNER))

    def test_room_of_some_given_things_only(self):
        blanks = (("n", "number", (0, 99, 0)),)
        pieces = (("by", "n", (("one", ("a very long text",)), ("other", (("say", "n"),)))),)
        source = ("a", blanks, (("say", "n"),), (16, 1))
        self.tells(pieces, (), source=source)
        self.tells_room(pieces, source=source[:3] + ((15, 1),))
        self.assertEqual(faults((), TONGUE, (), source[:3] + ((15, 1),), pieces), (("room", {"n": (1, 0)}),))
        self.tells_room(pieces, source=source[:3] + ((6, 2),))
        self.tells(pieces, (), source=source[:3] + ((6, 3),))

    def test_the_room_is_measured(self):
        source = ("a", (), ("x",), (3, 1))
        self.tells_room(("mm",), source=source, measure=(("m", 2),))
        self.tells(("mi",), (), source=source, measure=(("m", 2),))
        self.tells(("iiiiii",), (), source=source, measure=(("i", 0),))

    def test_some_tellings_as_the_words_say(self):
        some = seeded(181)
        kinds = {}
        for time in range(400):
            blanks = some_blanks(some) if time % 2 else tuple([few_blank(some, name) for name in ("a", "b")])
            own, tongue = some_tongue(some), some_tongue(some)
            source = ("a", blanks, some_pieces(some, own[0], blanks), (some.randint(1, 40), some.randint(1, 6)))
            pieces = some_pieces(some, some.choice((own, tongue, tongue, tongue))[0], blanks)
            terms = tuple([(some.choice("abimw07"), some.choice("abimw07")) for term in range(some.choice((0, 0, 1, 6)))])
            measure = some_measure(some)
            told = self.found(pieces, source=source, terms=terms, tongue=tongue, measure=measure)
            plain = plain_faults(tongue, terms, source, pieces)
            if plain or not told:
                self.assertEqual(told, plain)
            for word, *rest in told:
                kinds[word] = kinds.get(word, 0) + 1
            if not plain:
                wrong = [given for given in self.things(some, blanks, time) if beyond(measure, tongue, source, pieces, given)]
                self.assertFalse(wrong and not told)
                for given in wrong:
                    self.assertIs(is_fault(measure, tongue, terms, source, pieces, ("room", given)), True)
        self.assertEqual(sorted(kinds), ["blank", "lacks", "room", "term"])

    def things(self, some, blanks, time):
        if time % 2:
            return [some_given(some, blanks) for turn in range(20)]
        return some.sample(all_given(blanks), min(40, len(all_given(blanks))))


def beyond(measure, tongue, source, pieces, given):
    lines = lines_of(measure, source[3][0], plain_said(tongue, pieces, given))
    return lines is None or len(lines) > source[3][1]


def plain_faults(tongue, terms, source, pieces):
    """All faults but that of the room, of pieces that are such."""
    words = {name: set(more[1]) if sort == "word" else {form[0] for form in tongue[0]} for name, sort, more in source[1]}
    told = []
    names, texts = [], []
    for row in (source[2], pieces):
        found = [(path, piece_at(row, path)) for path in sorted(all_paths(row))]
        names.append({piece[1] for path, piece in found if piece[0] in ("say", "by") and type(piece) is tuple})
        texts.append([piece for path, piece in found if type(piece) is str])
        bys = [(path, piece) for path, piece in found if piece[0] == "by"]
    for path, piece in bys:
        if {word for word, row in piece[2]} != words[piece[1]]:
            told.append(("lacks", path))
    told += [("blank", name) for name in sorted(names[0] ^ names[1])]
    for k, (first, second) in enumerate(terms):
        if [text for text in texts[0] if first in text] and not [text for text in texts[1] if second in text]:
            told.append(("term", k))
    return tuple(told)


class IsFault(Asks):
    def asks(self, thing, answer, pieces=PIECES, source=SOURCE, terms=(), tongue=TONGUE, measure=()):
        before = repr((measure, tongue, terms, source, pieces, thing))
        self.assertIs(is_fault(measure, tongue, terms, source, pieces, thing), answer, thing)
        self.assertEqual(repr((measure, tongue, terms, source, pieces, thing)), before)

    def test_nothing_is_a_fault_where_nothing_is_wrong(self):
        for thing in OTHERS + (("pieces",), ("lacks", (1,)), ("blank", "who"), ("term", 0), ("room", {}), ((),), nested(23),
                               ("room", {"n": (1, 0), "who": ("ann", "he"), "p": (1, 1), "day": (1, 1, 1)})):
            self.asks(thing, False, terms=(("The", "The"),))

    def test_pieces_alone(self):
        for thing, answer in ((("pieces",), True), (["pieces"], False), ("pieces", False), (("pieces", ()), False),
                              ((("pieces",),), False), (("lacks", (0,)), False), (("room", {}), False), ((), False)):
            self.asks(thing, answer, pieces=("",))
            self.asks(thing, answer, pieces=[], source=("a", (), ("x",), ROOM))

    def wrong(self):
        bad = ("by", "n", (("one", ()),))
        pieces = (("quote", (("say", "day"),)), ("quote", (bad, bad)))
        return {"pieces": pieces, "terms": (("The", "x"), ("file", "x"), ("z", "y"))}

    def test_each_fault_and_none_of_which_it_is_not_so(self):
        for thing in (("lacks", (1, 0)), ("lacks", (1, 1)), ("blank", "day"), ("blank", "who"), ("term", 0), ("term", 1)):
            self.asks(thing, True, **self.wrong())
        for thing in (("lacks", (0,)), ("lacks", (1,)), ("lacks", (1, 2)), ("lacks", ()), ("lacks", (-1, 0)), ("blank", "n"),
                      ("blank", "p"), ("blank", "x"), ("term", 2), ("term", 3), ("term", -1), ("pieces",), ("lacks", "1"),
                      ("blank", "da"), ("who", "blank"), ("Lacks", (1, 0)), ("room", {}), ("room", None),
                      ("room", {"n": (1, 0), "who": ("ann", "he"), "p": (1, 1), "day": (1, 1, 1)})):
            self.asks(thing, False, **self.wrong())

    def test_truths_for_numbers_and_lists_for_tuples(self):
        for thing in (("lacks", (True, False)), ("lacks", (1, False)), ("lacks", (True, 1)), ("term", False), ("term", True),
                      ["lacks", (1, 0)], ("lacks", [1, 0]), ["term", 0], ("term", [0]), ("blank", ["day"]), ("term", "0"),
                      ("term", 0, 0), ("term",), ("lacks", (1, 0), ()), ("lacks", ((1, 0),)), {"term": 0}):
            self.asks(thing, False, **self.wrong())

    def test_each_fault_bent(self):
        more = self.wrong()
        told = faults((), TONGUE, more["terms"], SOURCE, more["pieces"])
        self.assertEqual(len(told), 6)
        for fault in told:
            for thing in bent(fault):
                self.asks(thing, repr(thing) in [repr(one) for one in told], **more)

    def test_a_room_with_given_things_for_which_it_does_not_fit(self):
        blanks = (("n", "number", (0, 99, 0)), ("who", "word", (3, ("he", "she"))))
        pieces = (("by", "n", (("one", ("abcdefg",)), ("other", (("say", "n"), ("say", "who"))))),)
        source = ("a", blanks, (("say", "n"), ("say", "who")), (4, 1))
        more = {"pieces": pieces, "source": source}
        for n in range(100):
            for text in ("a", "ab", "abc"):
                wide = 7 if n == 1 else len(str(n)) + len(text)
                self.asks(("room", {"n": (n, 0), "who": (text, "he")}), wide > 4, **more)
        good = {"n": (1, 0), "who": ("abc", "she")}
        self.asks(("room", good), True, **more)
        for given in bent(good):
            right = are_given(blanks, given)
            self.asks(("room", given), bool(right) and beyond((), TONGUE, source, pieces, given), **more)
        for thing in (["room", good], ("room", good, ()), ("room",), ("Room", good), ("room", (good,)), good, ("room", [good]),
                      (None, good), (["room"], good), ("term", good), ("lacks", (0,)), ("pieces",), ("room", {**good, "x": 1})):
            self.asks(thing, False, **more)

    def test_a_room_that_is_told_where_something_else_is_wrong(self):
        narrow = SOURCE[:3] + ((3, 1),)
        given = {"n": (1, 0), "who": ("ann", "he"), "p": (1, 1), "day": (1, 1, 1)}
        self.asks(("room", given), True, source=narrow)
        self.asks(("room", given), False, source=narrow, terms=(("The", "x"),))
        self.asks(("room", given), False, source=narrow, pieces=PIECES + (("say", "day"),))
        self.asks(("room", given), False, source=narrow, tongue=(MANY_RESTS, MANNER))
        self.asks(("room", given), False, source=narrow, pieces=list(PIECES))


if __name__ == "__main__":
    unittest.main()
