import functools
import itertools
import re
import unittest

from tests.oracle import ENGLISH, seeded, some_blanks
from tests.oracle_pieces import all_paths, piece_at, some_pieces
from tests.test_pieces import BLANKS, FOUR, quoted
from tonguehouse.errors import HouseError, NoPieces, NoText
from tonguehouse.words import read, written

SAY = ("say", "n")
NO_MARKS = r"[^\\{}|]*"
CHOICE = "[a-z]{1,8} " + NO_MARKS
WHOLE = re.compile(r"\{[a-z]{1,8}\}|\{\"" + NO_MARKS + r"\}|\{[a-z]{1,8}:" + CHOICE + r"(\|" + CHOICE + r")*\}")
FIXES = ("", "a", " ", "a ", "a a ", "\\", "a}")


def is_whole(text):
    """Whether a text is of the form: what is whole is put away from the inside until no mark is left."""
    text = re.sub(r"\\[\\{}|]", "#", text)
    while True:
        less = WHOLE.sub("#", text)
        if less == text:
            return not re.search(r"[\\{}|]", text)
        text = less


@functools.lru_cache(None)
def can_begin(text):
    """Whether some text of the form begins so: what is open is ended in one of few ways."""
    return any(is_whole(text + fix + "}" * many) for many in range(text.count("{") + 1) for fix in FIXES)


def first_wrong(text):
    """The at of NoText, or None where the text is of the form."""
    if is_whole(text):
        return None
    low, high = 0, len(text) + 1
    while low < high:
        middle = (low + high) // 2
        low, high = (middle + 1, high) if middle <= len(text) and can_begin(text[:middle]) else (low, middle)
    return low - 1


def plain_written(pieces):
    text = ""
    for piece in pieces:
        if type(piece) is str:
            text += piece.replace("\\", "\\\\").replace("{", "\\{").replace("}", "\\}").replace("|", "\\|")
        elif piece[0] == "say":
            text += "{%s}" % piece[1]
        elif piece[0] == "quote":
            text += '{"%s}' % plain_written(piece[1])
        else:
            text += "{%s:%s}" % (piece[1], "|".join(["%s %s" % (word, plain_written(row)) for word, row in piece[2]]))
    return text


def no_two_texts(pieces):
    rows = [pieces] + [row for path in all_paths(pieces) for row in rows_in(piece_at(pieces, path))]
    return not [1 for row in rows for one, other in zip(row, row[1:]) if type(one) is type(other) is str]


def rows_in(piece):
    if type(piece) is tuple and piece[0] == "quote":
        return [piece[1]]
    return [row for word, row in piece[2]] if type(piece) is tuple and piece[0] == "by" else []


class Written(unittest.TestCase):
    def both(self, pieces, text, blanks=BLANKS):
        before = repr((blanks, pieces))
        self.assertEqual(written(pieces), text)
        self.assertEqual(read(blanks, text), pieces)
        self.assertEqual(repr((blanks, pieces)), before)

    def test_texts(self):
        self.both((), "")
        self.both(("a",), "a")
        self.both((" a  b ",), " a  b ")
        self.both(("\"':,.",), "\"':,.")

    def test_marks_in_texts(self):
        self.both(("\\",), "\\\\")
        self.both(("{",), "\\{")
        self.both(("}",), "\\}")
        self.both(("|",), "\\|")
        self.both(("{n}|\\{\\|",), "\\{n\\}\\|\\\\\\{\\\\\\|")
        self.both(("quote", ), "quote")
        self.both((("quote", ("|}", SAY, "\\")),), "{\"\\|\\}{n}\\\\}")

    def test_say_by_and_quote(self):
        self.both((SAY,), "{n}")
        self.both((SAY, ("say", "who"), "x", ("say", "day")), "{n}{who}x{day}")
        self.both((("quote", ()),), "{\"}")
        self.both((("quote", ("\"",)),), "{\"\"}")
        self.both((("quote", (("quote", ("a",)),)),), "{\"{\"a}}")
        self.both((("by", "n", (("one", ("a file",)), ("other", (SAY, " files")))),), "{n:one a file|other {n} files}")
        self.both((("by", "n", (("one", ()),)),), "{n:one }")
        self.both((("by", "n", (("one", ()), ("other", ()))), "x"), "{n:one |other }x")

    def test_blanks_at_the_begin_of_a_choice_s_pieces(self):
        self.both((("by", "n", (("one", (" x",)), ("other", ("  ",)))),), "{n:one  x|other   }")
        self.both((("by", "n", (("one", (SAY, " ")), ("other", (" ", SAY)))),), "{n:one {n} |other  {n}}")

    def test_a_by_within_a_by(self):
        inner = ("by", "who", (("he", ("his", SAY)), ("she", ())))
        text = "{n:one {who:he his{n}|she }|other x{\"{who:he his{n}|she }}}"
        self.both((("by", "n", (("one", (inner,)), ("other", ("x", ("quote", (inner,)))))),), text)

    def test_names_of_8_letters(self):
        blanks = (("abcdefgh", "number", (0, 9, 0)),)
        self.both((("by", "abcdefgh", (("abcdefgh", (("say", "abcdefgh"),)),)),), "{abcdefgh:abcdefgh {abcdefgh}}", blanks=blanks)

    def test_texts_side_by_side_are_read_as_one(self):
        self.assertEqual(written(("a", "b|", SAY, "c")), "ab\\|{n}c")
        self.assertEqual(read(BLANKS, "ab\\|{n}c"), ("ab|", SAY, "c"))
        self.assertEqual(read(BLANKS, "\\{\\}\\\\\\|x"), ("{}\\|x",))

    def test_some_pieces(self):
        some = seeded(291)
        marked = "ab{}|\\ \"':"
        told = 0
        for time in range(600):
            blanks = some_blanks(some)
            pieces = self.marked(some, some_pieces(some, ENGLISH, blanks), marked)
            text = written(pieces)
            self.assertEqual(text, plain_written(pieces))
            if no_two_texts(pieces):
                told += 1
                self.assertEqual(read(blanks, text), pieces)
            self.assertTrue(is_whole(text))
        self.assertGreater(told, 150)

    def marked(self, some, pieces, signs):
        """The same pieces with other signs in their texts."""
        row = []
        for piece in pieces:
            if type(piece) is str:
                row.append("".join([some.choice(signs) for sign in piece]))
            elif piece[0] == "quote":
                row.append(("quote", self.marked(some, piece[1], signs)))
            elif piece[0] == "by":
                row.append(piece[:2] + (tuple([(word, self.marked(some, inner, signs)) for word, inner in piece[2]]),))
            else:
                row.append(piece)
        return tuple(row)


class NoTextAt(unittest.TestCase):
    def breaks(self, text, at):
        self.assertEqual(first_wrong(text), at, text)
        with self.assertRaises(NoText) as caught:
            read(BLANKS, text)
        self.assertEqual(caught.exception.at, at, text)
        self.assertIsInstance(caught.exception, HouseError)

    def test_marks_outside_of_braces(self):
        for text, at in (("}", 0), ("|", 0), ("a}", 1), ("ab|c", 2), ("{n}}", 3), ("{n}|", 3), ("{\"a}|{", 4)):
            self.breaks(text, at)

    def test_backslashes(self):
        for text, at in (("\\", 1), ("a\\", 2), ("\\a", 1), ("\\ {", 1), ("\\\\\\", 3), ("{\"\\\"", 3), ("{\\n}", 1), ("{n\\", 2)):
            self.breaks(text, at)

    def test_behind_a_brace(self):
        for text, at in (("{", 1), ("{}", 1), ("{{", 1), ("{|", 1), ("{N}", 1), ("{ n}", 1), ("{1}", 1), ("{:", 1), ("{'", 1)):
            self.breaks(text, at)

    def test_names(self):
        for text, at in (("{n", 2), ("{n ", 2), ("{nN}", 2), ("{n{", 2), ("{n|", 2), ("{n\"}", 2), ("{abcdefgh", 9),
                         ("{abcdefghi}", 9), ("{abcdefghi", 9), ("{a1}", 2)):
            self.breaks(text, at)

    def test_choices(self):
        for text, at in (("{n:", 3), ("{n:}", 3), ("{n: }", 3), ("{n:|", 3), ("{n:one", 6), ("{n:one}", 6), ("{n:one|", 6),
                         ("{n:one:", 6), ("{n:One }", 3), ("{n:oNe }", 4), ("{n:abcdefghi }", 11), ("{n:one x", 8), ("{n:one x|", 9),
                         ("{n:one x|}", 9), ("{n:one x| ", 9), ("{n:one x||", 9), ("{n:one x|two}", 12), ("{n:one {n}", 10),
                         ("{n:one x|abcdefghi }", 17), ("{n:one x}}", 9), ("{n:one x}|", 9)):
            self.breaks(text, at)

    def test_quotes(self):
        for text, at in (("{\"", 2), ("{\"a", 3), ("{\"a|", 3), ("{\"a|b}", 3), ("{\"{n:one {\"a|b}}}", 12), ("{\"}}", 3),
                         ("{\"{n:one |two {\"", 16), ("{\"{n}", 5)):
            self.breaks(text, at)

    def test_signs_that_no_text_may_have(self):
        for text, at in (("a\n", 1), ("\t", 0), ("{\"a\x25}", 3), ("{n:one \xe9", 7), ("{n}\x7f", 3)):
            with self.assertRaises(NoText) as caught:
                read(BLANKS, text)
            self.assertEqual(caught.exception.at, at)

    def test_the_form_comes_ahead_of_the_pieces(self):
        self.breaks("{zz}{", 5)
        self.breaks("x" * 200 + "}", 200)
        self.breaks("{n:one |one |one |", 18)

    def test_all_short_texts(self):
        for many in range(6):
            for signs in itertools.product("a {}|:\"\\", repeat=many):
                text = "".join(signs)
                if many < 5 or "{a" in text:
                    self.compares(text)

    def compares(self, text):
        try:
            told = read((), text)
        except NoText as error:
            told = error.at
        except NoPieces:
            told = None
        if type(told) is tuple:
            self.assertEqual(plain_written(told), text)
            told = None
        self.assertEqual(told, first_wrong(text), text)

    def test_some_texts_with_a_sign_changed(self):
        some = seeded(292)
        wrong = 0
        for time in range(1500):
            blanks = some_blanks(some)
            text = written(some_pieces(some, ENGLISH, blanks))[:some.choice((20, 60, 90))]
            at = some.randint(0, len(text))
            text = text[:at] + some.choice(("", "a", "{", "}", "|", "\\", " ", "{\"", "{a:b ")) + text[at + some.choice((0, 0, 1)):]
            self.compares(text)
            wrong += first_wrong(text) is not None
        self.assertTrue(400 < wrong < 1450, wrong)


class NoPiecesOver(unittest.TestCase):
    def refuses(self, text, blanks=BLANKS):
        self.assertTrue(is_whole(text))
        before = repr(blanks)
        with self.assertRaises(NoPieces):
            read(blanks, text)
        self.assertEqual(repr(blanks), before)

    def test_blanks_that_are_not_there(self):
        self.refuses("{m}")
        self.refuses("{n}", blanks=())
        self.refuses("{m:one }")
        self.refuses("{day:one }")
        self.refuses("{\"a{m}}")

    def test_bounds_of_pieces(self):
        self.refuses("a" * 41)
        self.refuses("\\|" * 41)
        self.refuses("{n}" * 9)
        self.refuses("{n:a |a }")
        self.refuses("{n:" + "|".join([word + " " for word in "abcdefg"]) + "}")
        self.refuses("{\"{\"{\"{\"}}}}")
        self.refuses("".join(["{" + name + ":one }" for name in "abcd"]), blanks=FOUR)
        self.refuses("{\"" + "{n}" * 8 + "}" * 1 + ("{\"" + "{n}" * 8 + "}") * 4)

    def test_up_to_the_bounds(self):
        self.assertEqual(read(BLANKS, "a" * 40), ("a" * 40,))
        self.assertEqual(read(BLANKS, "\\|" * 40), ("|" * 40,))
        self.assertEqual(read(BLANKS, "{n}" * 8), (SAY,) * 8)
        self.assertEqual(read(BLANKS, "{\"{\"{\"a}}}"), quoted(3, ("a",)))
        self.assertEqual(read(BLANKS, ("{\"" + "{n}" * 8 + "}") * 4 + "a{n}b{n}"), (("quote", (SAY,) * 8),) * 4 + ("a", SAY, "b", SAY))

    def test_forms_and_kinds_are_not_asked(self):
        self.assertEqual(read(BLANKS, "{who:nobody }"), (("by", "who", (("nobody", ()),)),))

    def test_40_braces_and_more_open_within_one_another(self):
        for many in (4, 39, 40, 41, 60, 400):
            self.refuses("{\"" * many + "}" * many)
            self.refuses("{n:a " * many + "}" * many)
            self.refuses("{\"{n:a |b x" * (many // 2) + "}" * (2 * (many // 2)))
            for text in ("{\"" * many, "{n:a " * many):
                with self.assertRaises(NoText) as caught:
                    read(BLANKS, text + "}" * (many - 1))
                self.assertEqual(caught.exception.at, len(text) + many - 1)

    def test_long_texts(self):
        for text in ("a" * 4000, "{n}" * 1333, "\\\\" * 2000, "{n:" + "|".join(["a x"] * 900) + "}", "a" * 4100):
            self.refuses(text)
        with self.assertRaises(NoText) as caught:
            read(BLANKS, "a" * 3999 + "|")
        self.assertEqual(caught.exception.at, 3999)


if __name__ == "__main__":
    unittest.main()
