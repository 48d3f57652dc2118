import unittest

from tests.bending import NAME, OTHERS, SIGN, Says, bent, is_row_of, is_str, nested
from tests.oracle import ENGLISH, MANY_RESTS, seeded, some_blanks
from tests.oracle_pieces import all_paths, piece_at, some_pieces, some_tongue
from tonguehouse.pieces import are_pieces, lacks, used

BLANKS = (("day", "day", ()), ("n", "number", (0, 9, 0)), ("p", "number", (0, 99, 1)), ("who", "word", (5, ("he", "she"))))
FOUR = tuple([(name, "number", (0, 9, 0)) for name in "abcd"])
BY = ("by", "n", (("one", ("a file",)), ("other", (("say", "n"), " files"))))
GOOD = (
    (),
    ("a",),
    (("say", "n"), ("say", "day"), ("say", "who")),
    (BY, " of ", ("quote", (("say", "who"),))),
    (("quote", ()),),
    (("by", "who", (("he", ()), ("x", (("quote", (BY,)),)))),),
    (("by", "p", tuple([(word, ()) for word in "abcdef"])),),
)


class NoSuch(Exception):
    pass


def measured(sorts, thing):
    """(how many pieces, how deep, names in by) of pieces, whatever they are."""
    if type(thing) is not tuple or len(thing) > 8:
        raise NoSuch
    many, deep, names = len(thing), 1, set()
    for piece in thing:
        rows = []
        if type(piece) is tuple and len(piece) == 2 and is_str(piece[0], "quote"):
            rows = [piece[1]]
        elif type(piece) is tuple and len(piece) == 3 and is_str(piece[0], "by") and is_str(piece[1], NAME):
            if sorts.get(piece[1]) not in ("number", "word"):
                raise NoSuch
            if not is_row_of(piece[2], 1, 6, lambda pair: type(pair) is tuple and len(pair) == 2 and is_str(pair[0], NAME)):
                raise NoSuch
            if len(dict(piece[2])) != len(piece[2]):
                raise NoSuch
            names.add(piece[1])
            rows = [pair[1] for pair in piece[2]]
        elif not is_plain(sorts, piece):
            raise NoSuch
        for row in rows:
            more, deeper, others = measured(sorts, row)
            many, deep, names = many + more, max(deep, deeper + 1), names | others
    return many, deep, names


def is_plain(sorts, piece):
    if type(piece) is str:
        return is_str(piece, SIGN + "{1,40}")
    if type(piece) is not tuple or len(piece) != 2:
        return False
    return is_str(piece[0], "say") and is_str(piece[1], NAME) and piece[1] in sorts


def plainly_pieces(blanks, thing):
    try:
        many, deep, names = measured({blank[0]: blank[1] for blank in blanks}, thing)
    except NoSuch:
        return False
    return many <= 40 and deep <= 4 and len(names) <= 3


def quoted(times, inner=()):
    pieces = inner
    for time in range(times):
        pieces = (("quote", pieces),)
    return pieces


def chosen(times, inner=()):
    pieces = inner
    for time in range(times):
        pieces = (("by", "n", (("one", ()), ("other", pieces))),)
    return pieces


class ArePieces(Says, unittest.TestCase):
    def asks(self, thing, answer, blanks=BLANKS):
        before = repr(blanks)
        self.says(lambda it: are_pieces(blanks, it), thing, answer)
        self.assertEqual(repr(blanks), before)

    def test_pieces_that_are_such(self):
        for pieces in GOOD:
            self.asks(pieces, True)
        some = seeded(71)
        for time in range(300):
            blanks = some_blanks(some)
            self.asks(some_pieces(some, ENGLISH, blanks), True, blanks=blanks)

    def test_each_part_bent_at_any_depth(self):
        for pieces in GOOD:
            for thing in bent(pieces):
                self.asks(thing, plainly_pieces(BLANKS, thing))
        some = seeded(72)
        for time in range(40):
            blanks = some_blanks(some)
            for thing in bent(some_pieces(some, ENGLISH, blanks)):
                self.assertIs(are_pieces(blanks, thing), plainly_pieces(blanks, thing), (blanks, thing))

    def test_things_of_other_kinds(self):
        for thing in OTHERS:
            self.asks(thing, thing == () and type(thing) is tuple)
        for thing in (["a"], "a", "say", {"say": "n"}, ("say", "day", None), nested(23), (None,) * 1999, ("quote", ())):
            self.asks(thing, False)
        for piece in OTHERS + (nested(22), ("quote",), ("say",), ("by",), ("say", "n", ()), ("quote", (), ()),
                               ("by", "n"), ("by", "n", (("a", ()),), ()), ["say", "n"], ["quote", ()], {"say": "n"},
                               ("Say", "n"), ("text", "n"), (None, "n"), (("say",), "n"), (["by"], "n", (("a", ()),))):
            self.asks((piece,), piece in ("a", "whole"))

    def test_texts_of_0_1_40_and_41_signs(self):
        for many in (0, 1, 40, 41):
            for around in (lambda pieces: pieces, quoted_once, chosen_once):
                self.asks(around(("a" * many,)), 1 <= many <= 40)
        for text in ("a\n", "\t", "\x25", "\xe9", "\x7f"):
            self.asks((text,), False)
        for text in (" ", "~", "{}|\\", "  "):
            self.asks((text,), True)

    def test_8_and_9_pieces_in_a_row(self):
        for around in (lambda pieces: pieces, quoted_once, chosen_once):
            self.asks(around(("a",) * 8), True)
            self.asks(around(("a",) * 9), False)

    def test_4_and_5_deep(self):
        for inner in ((), ("a",), (("say", "n"),)):
            for around in (quoted, chosen):
                self.asks(around(3, inner), True)
                self.asks(around(4, inner), False)
            self.asks(quoted(1, chosen(2, inner)), True)
            self.asks(quoted(2, chosen(2, inner)), False)
            self.asks(chosen(2, quoted(1, inner)), True)
            self.asks(chosen(2, quoted(2, inner)), False)
        self.asks(("a",) + quoted(3) + ("b",) + chosen(3), True)
        self.asks(("a",) + quoted(3) + ("b",) + chosen(4), False)
        self.asks(quoted(20), False)

    def test_40_and_41_pieces_in_all(self):
        full = ("quote", ("a",) * 8)
        self.asks((full,) * 4 + ("a",) * 4, True)
        self.asks((full,) * 4 + (("quote", ("a",) * 3), "a"), False)
        self.asks((full,) * 4 + (("quote", ("a",) * 2), "a"), True)
        wide = ("by", "n", tuple([(word, ("a",) * 6) for word in "abcdef"]))
        self.asks((wide, "a", "a", "a"), True)
        self.asks((wide, "a", "a", "a", "a"), False)
        self.asks((wide, wide), False)

    def test_things_that_stand_within_themselves_many_times(self):
        row = ("a",)
        for time in range(23):
            row = (("quote", row),) * 8
        self.assertIs(are_pieces(BLANKS, row), False)

    def test_3_and_4_unlike_blanks_in_by(self):
        bys = [("by", name, (("a", ()),)) for name in "abcd"]
        self.asks(tuple(bys[:3]), True, blanks=FOUR)
        self.asks(tuple(bys), False, blanks=FOUR)
        self.asks(tuple(bys[:3] + bys[:3]), True, blanks=FOUR)
        self.asks((bys[0], ("quote", (bys[1], ("by", "c", (("a", ()), ("b", (bys[3],))))))), False, blanks=FOUR)
        self.asks(tuple(bys[:3]) + (("say", "d"),), True, blanks=FOUR)

    def test_names_that_are_no_blank_s_and_a_by_of_a_day(self):
        for name in ("x", "", "N", "nn", None, 0, ("n",), ["n"], {"n": 1}):
            self.asks((("say", name),), False)
            self.asks((("by", name, (("a", ()),)),), False)
        self.asks((("by", "day", (("a", ()),)),), False)
        for name in ("n", "p", "who"):
            self.asks((("by", name, (("a", ()),)),), True)
            self.asks((("by", name, (("a", ()),)),), False, blanks=())
        self.asks((("say", "n"),), False, blanks=())
        self.asks((("quote", (("say", "x"),)),), False)

    def test_choices(self):
        for choices, answer in (((), False), ((("a", ()),), True), (tuple([(word, ()) for word in "fedcba"]), True),
                                (tuple([(word, ()) for word in "abcdefg"]), False), ((("a", ()), ("a", ())), False),
                                ((("a", ()), ("b", ()), ("a", ("x",))), False), ((("", ()),), False), ((("A", ()),), False),
                                ((("abcdefgh", ()),), True), ((("abcdefghi", ()),), False), (((None, ()),), False),
                                ((("a",),), False), ((("a", (), ()),), False), ((["a", ()],), False), ([("a", ())], False),
                                ((("a", []),), False), ((("a", None),), False), ((("a", "x"),), False), ("a", False),
                                ({"a": ()}, False), (None, False), (((["a"], ()),), False), (("a", ()), False)):
            self.asks((("by", "n", choices),), answer)

    def test_lists_for_tuples(self):
        for thing in ([BY], (list(BY),), (("quote", ["a"]),), (["quote", ("a",)],), (("by", "n", [("one", ())]),),
                      (("by", "n", (["one", ()],)),), (("by", "n", (("one", ["a"]),)),), (["say", "n"],)):
            self.asks(thing, False)

    def test_forms_and_kinds_are_not_asked(self):
        self.asks((("by", "who", (("nobody", ()),)), ("by", "n", (("nothing", ()),))), True)


def quoted_once(pieces):
    return quoted(1, pieces)


def chosen_once(pieces):
    return chosen(1, pieces)


class Lacks(unittest.TestCase):
    def says(self, pieces, paths, forms=ENGLISH, blanks=BLANKS):
        before = repr((forms, blanks, pieces))
        self.assertEqual(lacks(forms, blanks, pieces), paths)
        self.assertIsInstance(lacks(forms, blanks, pieces), tuple)
        self.assertEqual(repr((forms, blanks, pieces)), before)

    def by(self, name, words, inner=()):
        return ("by", name, tuple([(word, inner) for word in words.split()]))

    def test_words_that_are_just_so_in_any_order(self):
        for pieces in ((), ("a", ("say", "n")), (self.by("n", "one other"),), (self.by("n", "other one"),),
                       (self.by("who", "he she"), self.by("who", "she he")), (("quote", (self.by("p", "other one"),)),)):
            self.says(pieces, ())
        self.says((self.by("n", "even none odd tenth"),), (), forms=MANY_RESTS)

    def test_one_too_few_one_too_many_another_one(self):
        for words in ("one", "other", "one other few", "one few", "he she"):
            self.says((self.by("n", words),), ((0,),))
        for words in ("he", "she", "he she it", "he it", "one other"):
            self.says((self.by("who", words),), ((0,),))
        self.says((self.by("n", "one other"),), ((0,),), forms=MANY_RESTS)

    def test_paths_within_quotes_and_choices(self):
        bad = self.by("n", "one")
        self.says(("a", "b", bad), ((2,),))
        self.says(("a", "b", ("quote", (bad, "c", bad))), ((2, 0), (2, 2)))
        self.says(("a", "b", ("by", "who", (("he", ()), ("she", (bad,))))), ((2, 1, 0),))
        self.says((("quote", ("a", ("by", "n", (("other", ("a", "b", bad)), ("one", (bad,)))))),), ((0, 1, 0, 2), (0, 1, 1, 0)))

    def test_a_by_that_lacks_around_others_that_lack(self):
        bad = self.by("n", "one")
        around = ("by", "who", (("he", (bad, bad)), ("it", ("a", ("quote", (bad,))))))
        self.says((bad, around, bad), ((0,), (1,), (1, 0, 0), (1, 0, 1), (1, 1, 1, 0), (2,)))

    def test_paths_rise_by_number(self):
        row = tuple([("quote", (self.by("p", "he"),)) for time in range(8)]) + (self.by("p", "he"),) * 4
        self.says(row, tuple([(at, 0) for at in range(8)] + [(at,) for at in range(8, 12)]))

    def test_some_pieces(self):
        some = seeded(73)
        for time in range(300):
            blanks = some_blanks(some)
            forms = some_tongue(some)[0]
            pieces = some_pieces(some, forms, blanks)
            self.says(pieces, (), forms=forms, blanks=blanks)
            other = some_tongue(some)[0]
            words = {name: set(more[1]) if sort == "word" else {form[0] for form in other} for name, sort, more in blanks}
            paths = []
            for path in sorted(all_paths(pieces)):
                piece = piece_at(pieces, path)
                if piece[0] == "by" and {word for word, row in piece[2]} != words[piece[1]]:
                    paths.append(path)
            self.says(pieces, tuple(paths), forms=other, blanks=blanks)


class Used(unittest.TestCase):
    def says(self, pieces, names):
        before = repr(pieces)
        self.assertEqual(used(pieces), names)
        self.assertIsInstance(used(pieces), tuple)
        self.assertEqual(repr(pieces), before)

    def test_names_in_say_and_in_by(self):
        self.says((), ())
        self.says(("a", ("quote", ("b",))), ())
        self.says((("say", "n"),), ("n",))
        self.says((("by", "n", (("one", ()),)),), ("n",))
        self.says((("say", "who"), ("say", "day"), ("by", "n", (("one", ()),))), ("day", "n", "who"))

    def test_each_once(self):
        self.says((("say", "n"), ("say", "n"), ("by", "n", (("one", (("say", "n"),)),))), ("n",))

    def test_at_any_depth(self):
        deep = ("quote", (("by", "b", (("one", (("say", "z"),)), ("two", (("quote", (("say", "a"),)),)))),))
        self.says((("say", "m"), deep), ("a", "b", "m", "z"))

    def test_words_and_texts_are_no_names(self):
        self.says(("say", "by", ("by", "n", (("who", ("n", "x")),))), ("n",))

    def test_some_pieces(self):
        some = seeded(74)
        for time in range(200):
            pieces = some_pieces(some, ENGLISH, some_blanks(some))
            found = [piece_at(pieces, path) for path in all_paths(pieces)]
            self.says(pieces, tuple(sorted({piece[1] for piece in found if piece[0] in ("say", "by")})))


if __name__ == "__main__":
    unittest.main()
