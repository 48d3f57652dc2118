import itertools
import unittest

from tests.bending import NAME, OTHERS, Says, bent, is_int, is_row_of, is_str, nested
from tests.oracle import seeded
from tests.test_blanks import plainly_blanks
from tests.test_pieces import plainly_pieces
from tonguehouse.editions import in_line, is_edition, like, line_of, news

BLANKS = (("n", "number", (0, 9, 0)), ("w", "word", (5, ("he", "she"))))
PIECES = ("a ", ("say", "n"), ("quote", (("by", "w", (("he", ("x",)), ("she", ()))),)))
ROOM = (20, 2)
SOURCE = ("src", BLANKS, PIECES, ROOM)


def source(name, words="x", blanks=(), room=ROOM):
    return (name, blanks, (words,), room)


def edition(*sources, renamed=()):
    return (tuple(sources), renamed)


GOOD = (
    edition(SOURCE),
    edition(source("a"), source("b"), source("c"), renamed=(("a", "c"), ("x", "a"))),
    edition(*[source(name) for name in "abcdefgh"]),
    edition(source("a", room=(1, 1)), source("aa", room=(200, 6)), renamed=(("a", "aa"), ("aa", "a"))),
    edition(("a", (), (), ROOM), renamed=(("q", "q"),)),
)


def plainly_source(thing):
    if type(thing) is not tuple or len(thing) != 4:
        return False
    name, blanks, pieces, room = thing
    if not is_str(name, NAME) or not plainly_blanks(blanks) or not plainly_pieces(blanks, pieces):
        return False
    return type(room) is tuple and len(room) == 2 and is_int(room[0], 1, 200) and is_int(room[1], 1, 6)


def plainly_edition(thing):
    if type(thing) is not tuple or len(thing) != 2 or not is_row_of(thing[0], 1, 8, plainly_source):
        return False
    if not is_row_of(thing[1], 0, 2000, lambda pair: is_row_of(pair, 2, 2, lambda name: is_str(name, NAME))):
        return False
    names = [one[0] for one in thing[0]]
    if names != sorted(set(names)) or list(thing[1]) != sorted(set(thing[1])):
        return False
    return all([len({pair[at] for pair in thing[1]}) == len(thing[1]) for at in (0, 1)])


class IsEdition(Says, unittest.TestCase):
    def with_sources(self, sources, answer):
        self.says(is_edition, (sources, ()), answer)

    def with_renamed(self, renamed, answer):
        self.says(is_edition, ((SOURCE,), renamed), answer)

    def test_editions_that_are_such(self):
        for one in GOOD:
            self.says(is_edition, one, True)

    def test_each_part_bent_at_any_depth(self):
        for one in GOOD:
            for thing in bent(one):
                self.says(is_edition, thing, plainly_edition(thing))

    def test_things_of_other_kinds(self):
        for thing in OTHERS + ([(SOURCE,), ()], {"sources": (SOURCE,)}, "edition", nested(23), (None,) * 1999, (SOURCE,),
                               ((SOURCE,),), ((SOURCE,), (), ()), SOURCE, ([SOURCE], ()), ((SOURCE,), []), (SOURCE, ())):
            self.says(is_edition, thing, False)

    def test_how_many_sources(self):
        for many in range(11):
            self.with_sources(tuple([source(name) for name in "abcdefghij"[:many]]), 1 <= many <= 8)

    def test_unlike_names_rising_or_not(self):
        for names, answer in (("ab", True), ("ba", False), ("aa", False), ("abc", True), ("acb", False), ("aba", False)):
            self.with_sources(tuple([source(name) for name in names]), answer)
        self.with_sources((source("a", "x"), source("a", "y")), False)
        self.with_sources((source("b"), source("aa")), False)
        self.with_sources((source("a"), source("aa"), source("b")), True)

    def test_parts_of_a_source(self):
        name, blanks, pieces, room = SOURCE
        for one in (("Src", blanks, pieces, room), ("", blanks, pieces, room), (None, blanks, pieces, room),
                    (["src"], blanks, pieces, room), (name, list(blanks), pieces, room), (name, blanks[::-1], pieces, room),
                    (name, (), pieces, room), (name, blanks[:1], pieces, room), (name, blanks, list(pieces), room),
                    (name, blanks, None, room), (name, blanks, ("",), room), (name, None, (), room), (name, blanks, pieces),
                    (name, blanks, pieces, room, ()), list(SOURCE), (name, blanks, pieces, list(room)), (name, 5, pieces, room)):
            self.with_sources((one,), False)
        for wide, rows in ((0, 1), (1, 0), (201, 1), (1, 7), (True, 1), (1, True), ("1", 1), (1, None)):
            self.with_sources(((name, blanks, pieces, (wide, rows)),), False)
        for wrong in ((), (1,), (1, 1, 1), None, 5):
            self.with_sources(((name, blanks, pieces, wrong),), False)
        self.with_sources(((name, blanks, pieces, (1, 1)),), True)

    def test_pieces_may_lack_words_and_be_beyond_the_room(self):
        self.with_sources((("a", BLANKS, (("by", "n", (("nothing", ()),)),), (1, 1)),), True)

    def test_renamed(self):
        for renamed, answer in (((), True), ((("a", "b"),), True), ((("a", "a"),), True), ((("a", "b"), ("b", "a")), True),
                                ((("b", "a"), ("a", "b")), False), ((("a", "b"), ("a", "c")), False),
                                ((("a", "b"), ("a", "b")), False), ((("a", "c"), ("b", "c")), False),
                                ((("a", "c"), ("b", "d"), ("c", "c")), False), (("a", "b"), False), ((("a",),), False),
                                ((("a", "b", "c"),), False), ((["a", "b"],), False), ([("a", "b")], False),
                                ((("a", "B"),), False), ((("", "b"),), False), ((("a", None),), False), ((("a", 1),), False),
                                ((("abcdefghi", "b"),), False), ({"a": "b"}, False), (None, False), ((("a", ["b"]),), False)):
            self.with_renamed(renamed, answer)

    def test_many_renamed(self):
        names = ["".join(pair) for pair in itertools.product("abcdefghijklmnopqrst", "abcde")]
        self.with_renamed(tuple(zip(names, names[::-1])), True)
        self.with_renamed(tuple(zip(names, names[:-1] + names[:1])), False)


class Like(unittest.TestCase):
    def says(self, one, other, word):
        before = repr((one, other))
        self.assertEqual(like(one, other), word)
        self.assertEqual(like(other, one), word)
        self.assertEqual(repr((one, other)), before)

    def test_same_words_and_blanks(self):
        name, blanks, pieces, room = SOURCE
        self.says(SOURCE, SOURCE, "same")
        self.says(SOURCE, (name, blanks, pieces[:-1], room), "words")
        self.says(SOURCE, (name, blanks, (), room), "words")
        self.says((name, blanks, ("x",), room), (name, blanks[:1], ("x",), room), "blanks")
        self.says((name, blanks, ("x",), room), (name, blanks[:1], ("y",), room), "blanks")
        self.says((name, (("n", "number", (0, 9, 0)),), (), room), (name, (("n", "number", (0, 9, 1)),), (), room), "blanks")
        self.says((name, blanks, ("a", "b"), room), (name, blanks, ("ab",), room), "words")

    def test_names_and_rooms_aside(self):
        name, blanks, pieces, room = SOURCE
        self.says(SOURCE, ("other", blanks, pieces, (1, 1)), "same")
        self.says(SOURCE, ("other", blanks, ("x",), (1, 1)), "words")
        self.says(SOURCE, ("other", (), ("x",), (1, 1)), "blanks")


def plain_elder(editions, e, name):
    """The name of the elder, told by the table of all renamed."""
    if e == 0:
        return None
    news = {new: old for old, new in editions[e][1]}
    old = news.get(name, None if name in news.values() else name)
    return old if old in [one[0] for one in editions[e - 1][0]] else None


def plain_source(editions, e, name):
    return {one[0]: one for one in editions[e][0]}[name]


def plain_lines(editions):
    """By each (edition, name) the line, from the oldest on."""
    lines = {}
    for e, (sources, renamed) in enumerate(editions):
        for one in sources:
            old = plain_elder(editions, e, one[0])
            same = old is not None and plain_source(editions, e - 1, old)[1:3] == one[1:3]
            lines[e, one[0]] = lines[e - 1, old] if same else (e, one[0])
    return lines


def plain_news(editions, e):
    told = []
    for one in editions[e][0]:
        old = plain_elder(editions, e, one[0])
        word = "new"
        if old is not None:
            elder = plain_source(editions, e - 1, old)
            word = "blanks" if elder[1] != one[1] else "words" if elder[2] != one[2] else "same"
        told.append((one[0], word))
    return tuple(told)


def some_editions(some):
    editions = []
    for e in range(some.randint(1, 5)):
        sources = []
        for name in sorted(some.sample("abcdef", some.randint(1, 5))):
            blanks = some.choice(((), (), (), BLANKS))
            sources.append((name, blanks, (some.choice("xxxy"),), (some.randint(1, 9), 1)))
        many = some.choice((0, 0, 1, 2, 3))
        renamed = tuple(zip(sorted(some.sample("abcdefg", many)), some.sample("abcdefg", many)))
        editions.append((tuple(sources), renamed))
    return tuple(editions)


class Lines(unittest.TestCase):
    def says(self, editions, e, name, line):
        before = repr(editions)
        self.assertEqual(line_of(editions, e, name), line)
        self.assertEqual(repr(editions), before)
        if line is not None:
            self.assertIn((e, name), in_line(editions, line))

    def holds(self, editions, line, places):
        before = repr(editions)
        self.assertEqual(in_line(editions, line), places)
        self.assertIsInstance(in_line(editions, line), tuple)
        self.assertEqual(repr(editions), before)

    def tells(self, editions, e, told):
        before = repr(editions)
        self.assertEqual(news(editions, e), told)
        self.assertIsInstance(news(editions, e), tuple)
        self.assertEqual(repr(editions), before)

    def test_the_first_edition(self):
        editions = (edition(source("a"), source("b"), renamed=(("b", "a"),)),)
        self.says(editions, 0, "a", (0, "a"))
        self.says(editions, 0, "b", (0, "b"))
        self.tells(editions, 0, (("a", "new"), ("b", "new")))
        self.holds(editions, (0, "a"), ((0, "a"),))

    def test_sources_that_stay(self):
        editions = (edition(source("a"), source("b")),) * 3
        for e in range(3):
            self.says(editions, e, "a", (0, "a"))
            self.tells(editions, e, (("a", "same" if e else "new"), ("b", "same" if e else "new")))
        self.holds(editions, (0, "a"), ((0, "a"), (1, "a"), (2, "a")))

    def test_rooms_aside(self):
        editions = (edition(source("a", room=(9, 1))), edition(source("a", room=(5, 2))))
        self.says(editions, 1, "a", (0, "a"))
        self.tells(editions, 1, (("a", "same"),))

    def test_words_and_blanks_that_change(self):
        editions = (edition(source("a"), source("b")), edition(source("a", "y"), source("b", blanks=BLANKS)),
                    edition(source("a", "y"), source("b")))
        self.says(editions, 1, "a", (1, "a"))
        self.says(editions, 2, "a", (1, "a"))
        self.says(editions, 1, "b", (1, "b"))
        self.says(editions, 2, "b", (2, "b"))
        self.tells(editions, 1, (("a", "words"), ("b", "blanks")))
        self.tells(editions, 2, (("a", "same"), ("b", "blanks")))
        self.holds(editions, (0, "a"), ((0, "a"),))
        self.holds(editions, (1, "a"), ((1, "a"), (2, "a")))

    def test_renamed(self):
        editions = (edition(source("a")), edition(source("b"), renamed=(("a", "b"),)),
                    edition(source("b"), source("c"), renamed=(("b", "c"),)))
        self.says(editions, 1, "b", (0, "a"))
        self.says(editions, 2, "c", (0, "a"))
        self.says(editions, 2, "b", (2, "b"))
        self.tells(editions, 1, (("b", "same"),))
        self.tells(editions, 2, (("b", "new"), ("c", "same")))
        self.holds(editions, (0, "a"), ((0, "a"), (1, "b"), (2, "c")))

    def test_renamed_and_changed(self):
        editions = (edition(source("a")), edition(source("b", "y"), renamed=(("a", "b"),)))
        self.says(editions, 1, "b", (1, "b"))
        self.tells(editions, 1, (("b", "words"),))

    def test_exchanged(self):
        editions = (edition(source("a", "x"), source("b", "y")),
                    edition(source("a", "y"), source("b", "x"), renamed=(("a", "b"), ("b", "a"))))
        self.says(editions, 1, "a", (0, "b"))
        self.says(editions, 1, "b", (0, "a"))
        self.tells(editions, 1, (("a", "same"), ("b", "same")))
        self.holds(editions, (0, "a"), ((0, "a"), (1, "b")))

    def test_gone_and_come_again(self):
        editions = (edition(source("a"), source("b")), edition(source("b")), edition(source("a"), source("b")))
        self.says(editions, 2, "a", (2, "a"))
        self.says(editions, 2, "b", (0, "b"))
        self.tells(editions, 2, (("a", "new"), ("b", "same")))
        self.holds(editions, (0, "a"), ((0, "a"),))
        self.holds(editions, (2, "a"), ((2, "a"),))

    def test_changed_and_changed_again(self):
        editions = (edition(source("a", "x")), edition(source("a", "y")), edition(source("a", "x")))
        self.says(editions, 2, "a", (2, "a"))
        self.tells(editions, 2, (("a", "words"),))

    def test_a_pair_whose_old_is_not_there(self):
        editions = (edition(source("a"), source("b")), edition(source("b"), renamed=(("gone", "b"),)))
        self.says(editions, 1, "b", (1, "b"))
        self.tells(editions, 1, (("b", "new"),))

    def test_a_name_that_is_an_old_one_without_being_a_new_one(self):
        editions = (edition(source("a")), edition(source("a"), renamed=(("a", "z"),)))
        self.says(editions, 1, "a", (1, "a"))
        self.tells(editions, 1, (("a", "new"),))

    def test_a_name_that_is_its_own_old_one(self):
        editions = (edition(source("a")), edition(source("a"), renamed=(("a", "a"),)))
        self.says(editions, 1, "a", (0, "a"))
        self.tells(editions, 1, (("a", "same"),))

    def test_only_the_edition_s_own_renamed_counts(self):
        editions = (edition(source("a"), renamed=(("a", "b"),)), edition(source("a"), source("b")))
        self.says(editions, 1, "a", (0, "a"))
        self.says(editions, 1, "b", (1, "b"))

    def test_sources_that_are_not_there(self):
        editions = (edition(source("a")), edition(source("b"), renamed=(("a", "b"),)))
        for e, name in ((0, "b"), (1, "a"), (0, "z"), (2, "b"), (-1, "b"), (10 ** 12, "a")):
            self.says(editions, e, name, None)
        self.assertIsNone(line_of((), 0, "a"))

    def test_lines_that_are_not_there(self):
        editions = (edition(source("a")), edition(source("b"), renamed=(("a", "b"),)))
        for line in ((0, "b"), (1, "b"), (1, "a"), (2, "a")):
            self.holds(editions, line, ())
        self.assertEqual(in_line((), (0, "a")), ())
        self.assertEqual(news(editions, 2), ())

    def test_some_editions_as_the_words_say(self):
        some = seeded(101)
        words = set()
        for time in range(1500):
            editions = some_editions(some)
            self.assertTrue(all([is_edition(one) for one in editions]), editions)
            lines = plain_lines(editions)
            for e in range(len(editions)):
                self.tells(editions, e, plain_news(editions, e))
                words |= {word for name, word in plain_news(editions, e)}
                for name in "abcdefg":
                    self.says(editions, e, name, lines.get((e, name)))
                    line = (e, name)
                    self.holds(editions, line, tuple(sorted([place for place in lines if lines[place] == line])))
        self.assertEqual(words, {"new", "same", "words", "blanks"})


if __name__ == "__main__":
    unittest.main()
