import collections
import unittest

from tests.bending import OTHERS, bent, nested
from tests.making import HANDS, NAMES, OWN, TONGUES, few_given, some_deeds, some_made
from tests.oracle import seeded
from tests.oracle_house import plain_asked, plain_editions, plain_paper, plain_tongues
from tonguehouse.whys import is_why

BLANKS = (("n", "number", (0, 99, 0)), ("who", "word", (3, ("he", "she"))))
BY = ("by", "n", (("one", ("a file",)), ("other", (("say", "n"), " files"))))
HIS = ("by", "who", (("he", ("his",)), ("she", ("her",))))
PIECES = (HIS, " ", BY)
TURNED = (("by", "n", (("other", (("say", "n"), "x ", HIS)), ("one", ("1x",)))), ("say", "who"))
SOURCE = ("a", BLANKS, PIECES, (20, 2))
PLAIN = ("b", (), ("open",), (9, 1))
MADE = ((), "en", OWN, ((SOURCE, PLAIN), ()))
RIGHTS = tuple([(what, name) for what in ("tell", "look") for name in ("de", "fr")])
GIVEN = {"n": (5, 0), "who": ("ann", "she")}
START = (
    ("tongue", "de", TONGUES[0], (), ()),
    ("tongue", "fr", TONGUES[1], ("de",), ()),
    ("rights", "ann", RIGHTS),
    ("rights", "bob", RIGHTS),
)
LONG = (BY, "abcdefghijk ", ("say", "who"))


def tell(pieces, tongue="de", e=0, name="a", base=None):
    return ("tell", "ann", tongue, e, name, pieces, base)


class Judges(unittest.TestCase):
    def judges(self, deeds, thing, answer, e=0, tongue="fr", name="a", given=GIVEN, made=MADE):
        handed = (made, deeds, e, tongue, name, given, thing)
        before = repr(handed)
        self.assertIs(is_why(*handed), answer, thing)
        self.assertEqual(repr(handed), before)

    def papers(self, deeds, paper, **more):
        """That this is the paper, and that none of what comes of bending a part of it is."""
        self.judges(deeds, paper, True, **more)
        for thing in bent(paper):
            self.judges(deeds, thing, False, **more)


class Papers(Judges):
    def test_the_source_itself(self):
        self.papers((), ((("en", ()),), None, (((0,), "she"), ((2,), "other")), "her 5 files"), tongue="en")
        self.papers(START, ((("fr", ()), ("de", ()), ("en", ())), None, (((0,), "she"), ((2,), "other")), "her 5 files"))
        self.papers(START, ((("de", ()), ("en", ())), None, (), "open"), tongue="de", name="b", given={})

    def test_a_telling_in_its_own_tongue(self):
        deeds = START + (tell(TURNED), ("let", "bob", 0))
        rows = (("de", ((0, "serves"),)),)
        self.papers(deeds, (rows, 0, (((0,), "other"), ((0, 0, 2), "she")), "5x herann"), tongue="de")
        self.papers(deeds, (rows, 0, (((0,), "one"),), "1xann"), tongue="de", given={"n": (1, 0), "who": ("ann", "she")})

    def test_a_telling_in_a_fallback(self):
        deeds = START + (tell(TURNED), ("let", "bob", 0), tell((HIS, BY), tongue="fr"))
        rows = (("fr", ((1, "new"),)), ("de", ((0, "serves"),)))
        self.papers(deeds, (rows, 0, (((0,), "other"), ((0, 0, 2), "she")), "5x herann"))

    def test_the_own_tongue_and_others_are_apart(self):
        deeds = START + (tell(TURNED), ("let", "bob", 0))
        self.papers(deeds, ((("en", ()),), None, (((0,), "she"), ((2,), "other")), "her 5 files"), tongue="en")

    def test_new_sent_and_back(self):
        deeds = START + (tell((HIS, BY)), tell((BY, HIS)), tell((BY, "-", HIS)))
        deeds += (("send_back", "bob", 1), ("let", "bob", 2), ("call_back", "bob", 2))
        rows = (("fr", ()), ("de", ((0, "new"), (1, "sent"), (2, "back"))), ("en", ()))
        self.papers(deeds, (rows, None, (((0,), "she"), ((2,), "other")), "her 5 files"))

    def test_the_one_let_last_serves(self):
        deeds = START + (tell((HIS, BY)), tell((BY, HIS)), tell((BY, "-", HIS)), tell((BY, "+", HIS)))
        deeds += (("let", "bob", 3), ("let", "bob", 1), ("let", "bob", 0), ("let", "bob", 2), ("call_back", "bob", 2))
        rows = (("de", ((0, "serves"), (1, "elder"), (2, "back"), (3, "elder"))),)
        self.papers(deeds, (rows, 0, (((0,), "she"), ((1,), "other")), "her5 files"), tongue="de")

    def test_tellings_of_another_line(self):
        other = (((SOURCE[:2] + ((BY, HIS),) + SOURCE[3:]), PLAIN), ())
        deeds = START + (tell((HIS, BY)), ("let", "bob", 0), tell(("auf",), name="b"), ("let", "bob", 1), ("edition", other))
        rows = (("de", ((0, "line"), (1, "line"))), ("en", ()))
        self.papers(deeds, (rows, None, (((0,), "other"), ((1,), "she")), "5 filesher"), e=1, tongue="de")
        self.papers(deeds, ((("de", ((0, "line"), (1, "serves"))),), 1, (), "auf"), e=1, tongue="de", name="b", given={})
        self.papers(deeds, ((("de", ((0, "serves"), (1, "line"))),), 0, (((0,), "she"), ((1,), "other")), "her5 files"),
                    tongue="de")

    def test_a_line_under_another_name(self):
        later = ((PLAIN, ("c",) + SOURCE[1:]), (("a", "c"),))
        deeds = START + (tell((HIS, BY)), ("let", "bob", 0), ("edition", later))
        rows = (("fr", ()), ("de", ((0, "serves"),)))
        self.papers(deeds, (rows, 0, (((0,), "she"), ((1,), "other")), "her5 files"), e=1, name="c")
        self.judges(deeds, (rows, 0, (((0,), "she"), ((1,), "other")), "her5 files"), False, e=1, name="a")

    def test_a_room_that_is_narrower_in_another_edition(self):
        deeds = START + (tell(LONG), ("let", "bob", 0), tell((HIS, BY)), ("let", "bob", 1))
        deeds += (("edition", ((SOURCE[:3] + ((9, 6),), PLAIN), ())), tell((BY, HIS)), ("let", "bob", 2))
        narrow = (("de", ((0, "room"), (1, "elder"), (2, "serves"))),)
        self.papers(deeds, (narrow, 2, (((0,), "other"), ((1,), "she")), "5 filesher"), e=1, tongue="de")
        wide = (("de", ((0, "elder"), (1, "elder"), (2, "serves"))),)
        self.papers(deeds, (wide, 2, (((0,), "other"), ((1,), "she")), "5 filesher"), tongue="de")
        self.judges(deeds, (narrow, 2, (((0,), "other"), ((1,), "she")), "5 filesher"), False, tongue="de")

    def test_what_was_kept_of_two_changes_is_said(self):
        deeds = START + (tell((BY, HIS)), tell(("x", BY, HIS), base=0), tell((BY, HIS, "y"), base=0), ("let", "bob", 2))
        rows = (("de", ((0, "new"), (1, "new"), (2, "serves"))),)
        self.papers(deeds, (rows, 2, (((1,), "other"), ((2,), "she")), "x5 fileshery"), tongue="de")

    def test_ways_in_quotes(self):
        deeds = START + (tell((("quote", ("a", BY)), HIS)), ("let", "bob", 0))
        self.papers(deeds, ((("de", ((0, "serves"),)),), 0, (((0, 1), "other"), ((1,), "she")), "<<a5 files>>her"), tongue="de")


class Refused(Judges):
    PAPER = ((("de", ()), ("en", ())), None, (((0,), "she"), ((2,), "other")), "her 5 files")

    def test_the_paper_itself(self):
        self.judges(START, self.PAPER, True, tongue="de")

    def test_editions_tongues_and_names_that_are_not_there(self):
        for e in OTHERS + (1, (0,), "0", nested(23)):
            self.judges(START, self.PAPER, e == 0 and e is not False, e=e, tongue="de")
        for tongue in OTHERS + ("fr", "De", "es", ("de",), ["de"], {"de": "de"}):
            self.judges(START, self.PAPER, False, tongue=tongue)
        for name in OTHERS + ("b", "A", "c", ("a",), ["a"]):
            self.judges(START, self.PAPER, name == "a", tongue="de", name=name)

    def test_given_things_that_are_none(self):
        for given in bent(GIVEN):
            right = given in [{"n": (n, 0), "who": ("ann", "she")} for n in (0, 3)] and type(given["n"][0]) is int
            if not right and given != {"n": (5, 0), "who": ("a", "she")}:
                self.judges(START, self.PAPER, False, tongue="de", given=given)
        for given in OTHERS + ({**GIVEN, "x": 1}, [("n", (5, 0))], nested(23)):
            self.judges(START, self.PAPER, False, tongue="de", given=given)
            self.judges((), ((("en", ()),), None, (), "open"), given == {} and type(given) is dict, tongue="en", name="b",
                        given=given)
        self.judges(START, self.PAPER, True, tongue="de", given={"who": ("ann", "she"), "n": (5, 0)})

    def test_tongues_and_editions_that_come_later(self):
        deeds = START + (("edition", MADE[3]),)
        paper = ((("fr", ()), ("de", ()), ("en", ())),) + self.PAPER[1:]
        self.judges(deeds, paper, True, e=1)
        self.judges(deeds[:-1], paper, False, e=1)
        self.judges(START[:1], paper, False)
        self.judges(START[:2], paper, True)

    def test_things_of_any_other_kind(self):
        for thing in OTHERS + (nested(23), (None,) * 1999, list(self.PAPER), (None,) * 4, ((), None, (), ""), self.PAPER[:3],
                               self.PAPER + (None,), {"rows": ()}, (self.PAPER,), (list(self.PAPER[0]),) + self.PAPER[1:]):
            self.judges(START, thing, False, tongue="de")

    def test_truths_for_numbers(self):
        deeds = START + (tell((HIS, BY)), tell((BY, HIS)), ("let", "bob", 0), ("let", "bob", 1))
        rows = (("de", ((0, "elder"), (1, "serves"))),)
        ways = (((0,), "other"), ((1,), "she"))
        self.judges(deeds, (rows, 1, ways, "5 filesher"), True, tongue="de")
        self.judges(deeds, (rows, True, ways, "5 filesher"), False, tongue="de")
        self.judges(deeds, ((("de", ((False, "elder"), (1, "serves"))),), 1, ways, "5 filesher"), False, tongue="de")
        self.judges(deeds, ((("de", ((0, "elder"), (True, "serves"))),), 1, ways, "5 filesher"), False, tongue="de")
        self.judges(deeds, (rows, 1, (((False,), "other"), ((1,), "she")), "5 filesher"), False, tongue="de")
        self.judges(deeds, (rows, 1, (((0,), "other"), ((True,), "she")), "5 filesher"), False, tongue="de")


class SomeHouses(Judges):
    def test_some_houses_as_the_words_say(self):
        words = collections.Counter()
        for seed in range(30):
            some = seeded(2500 + seed)
            made = some_made(some)
            deeds = some_deeds(some, made, 45)
            for time in range(8):
                place = self.some_place(some, made, deeds)
                paper = plain_asked(plain_paper, made, deeds, *place)
                e, tongue, name, given = place
                more = {"e": e, "tongue": tongue, "name": name, "given": given, "made": made}
                self.judges(deeds, paper, paper[0] != "refused", **more)
                words[paper[1] if paper[0] == "refused" else len(paper[0])] += 1
                for row in paper[0] if paper[0] != "refused" else ():
                    words.update([word for number, word in row[1]])
                things = list(bent(paper))
                for thing in some.sample(things, min(12, len(things))):
                    self.judges(deeds, thing, False, **more)
                for many in some.sample(range(len(deeds)), 4):
                    earlier = plain_asked(plain_paper, made, deeds[:many], *place)
                    self.judges(deeds, earlier, earlier == paper and paper[0] != "refused", **more)
        for word in ("line", "new", "sent", "back", "room", "elder", "serves", 1, 2, 3, 4):
            self.assertGreater(words[word], 0, words)

    def some_place(self, some, made, deeds):
        editions = plain_editions(made, deeds)
        e = some.choice((len(editions) - 1, some.randrange(len(editions))))
        source = some.choice(editions[e][0])
        name = source[0] if some.random() < 0.95 else some.choice(NAMES + HANDS)
        tongue = some.choice([row[0] for row in plain_tongues(made, deeds)] + ["fr"] * 3)
        return e, tongue, name, few_given(some, source[1])


if __name__ == "__main__":
    unittest.main()
