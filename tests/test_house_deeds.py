import itertools
import unittest

from tests.asking import all_alike, all_asked, asked, do, house_of
from tests.bending import OTHERS, bent, nested
from tests.making import OWN, TONGUES, first_deeds, some_deed, some_made
from tests.oracle import ENGLISH, seeded
from tests.oracle_house import plain_asked, plain_telling, refusal, refuse_made
from tonguehouse.errors import Faulty, Full, Long, NotLet
from tonguehouse.houses import House

N = (("n", "number", (0, 99, 0)),)
SAY = ("say", "n")
SOURCE = ("a", N, ("the file ", SAY), (20, 1))
PLAIN = ("b", (), ("open",), (9, 1))
EDITION = ((SOURCE, PLAIN), ())
MADE = ((), "en", OWN, EDITION)
RIGHTS = tuple([(what, name) for what in ("tell", "look") for name in ("de", "fr")])
START = (
    ("tongue", "de", TONGUES[0], (), (("file", "datei"),)),
    ("tongue", "fr", TONGUES[1], ("de",), ()),
    ("rights", "ann", RIGHTS),
    ("rights", "bob", RIGHTS),
    ("rights", "cid", (("look", "de"),)),
)
DATEI = ("datei ", SAY)
NO_COVER = (ENGLISH[:1], OWN[1])
TWICE = ((("one", ((),)), ("two", ((),))), OWN[1])
UNUSED = ("c", N, ("x",), (9, 1))
LACKING = ("a", N, (("by", "n", (("one", ("x",)),)),), (9, 1))
TOO_WIDE = ("b", (), ("abcdefghij",), (9, 1))


def tell(pieces=DATEI, tongue="de", e=0, name="a", base=None, hand="ann"):
    return ("tell", hand, tongue, e, name, pieces, base)


class Compares(unittest.TestCase):
    """Does deeds in a house, and looks whether it answers as the plain words do."""

    def stays(self, house, deeds, made=MADE):
        self.assertEqual(house.its_deeds(), deeds)
        self.assertEqual(len(house), len(deeds))
        self.assertEqual(all_asked(house, all_alike), all_asked(house_of(made, deeds), all_alike))

    def refused(self, deeds, deed, made=MADE):
        """What the deed is refused with, or None; the house is as it was."""
        house = house_of(made, deeds)
        before = repr(deed)
        told = asked(do, house, deed)
        self.assertEqual(repr(deed), before)
        plain = refusal(made, deeds, deed)
        if plain is None:
            self.assertIn(type(told), (int, type(None)), deed)
            self.assertEqual(house.its_deeds(), deeds + (deed,))
            return None
        self.assertEqual(repr(told), repr(("refused", plain.word, plain.field)), deed)
        self.assertEqual(house.its_deeds(), deeds)
        return plain.word

    def is_refused(self, deeds, deed, word, field=None, made=MADE):
        house = house_of(made, deeds)
        self.assertEqual(repr(asked(do, house, deed)), repr(("refused", word, field)))
        self.stays(house, tuple(deeds), made)

    def all_ways(self, deeds, word, *choices):
        """All that may be wrong at once, so that each refusal comes ahead of those told behind it."""
        words = [self.refused(deeds, (word,) + things) for things in itertools.product(*choices)]
        return sorted(set([word or "stands" for word in words]))


class Making(unittest.TestCase):
    def makes(self, made):
        before = repr(made)
        told = asked(House, *made)
        plain = plain_asked(refuse_made, *made)
        self.assertEqual(repr(made), before)
        if plain is None:
            self.assertIs(type(told), House)
            return "stands"
        self.assertEqual(repr(told), repr(plain))
        return plain[1]

    def test_a_house(self):
        house = House((), "en", OWN, EDITION)
        self.assertEqual((len(house), str(house), house.its_deeds(), house.its_log()), (0, "en 0", (), ()))
        self.assertEqual(house.its_editions(), (EDITION,))
        self.assertEqual(house.its_tongues(), (("en", OWN, ("en",), ()),))
        self.assertEqual(house.show_text(0, "en", "a", {"n": (7, 0)}), "the file 7")

    def test_each_refusal_in_its_order(self):
        measures = ((), (("ab", 2), ("b", 1)), None)
        names = ("en", "En", ["en"])
        tongues = (OWN, (ENGLISH, OWN[1], ()), NO_COVER, TWICE)
        editions = (EDITION, ((), ()), ((LACKING, TOO_WIDE), ()), ((SOURCE, TOO_WIDE), ()), None)
        words = {self.makes(made) for made in itertools.product(measures, names, tongues, editions)}
        self.assertEqual(words, {"stands", "BadMeasure", "BadName", "BadTongue", "NoCover", "BadEdition", "BadSource"})

    def test_bad_source_tells_the_first_one_that_has_faults(self):
        for sources, name in (((LACKING, TOO_WIDE), "a"), ((SOURCE, TOO_WIDE), "b"), ((SOURCE, PLAIN, UNUSED), None),
                              ((SOURCE[:3] + ((1, 6),), TOO_WIDE), "a")):
            told = asked(House, (), "en", OWN, (sources, ()))
            if name is None:
                self.assertIs(type(told), House)
            else:
                self.assertEqual(told, ("refused", "BadSource", name))

    def test_no_cover_tells_its_paper(self):
        self.assertEqual(asked(House, (), "en", NO_COVER, EDITION), ("refused", "NoCover", ("none", (0, 0))))
        self.assertEqual(asked(House, (), "en", TWICE, EDITION), ("refused", "NoCover", ("two", (0, 0))))

    def test_the_measure_counts(self):
        wide = (("abcdefghijklmnopqrstuvwxyz", 4),)
        self.assertEqual(asked(House, wide, "en", OWN, EDITION), ("refused", "BadSource", "a"))

    def test_things_of_any_other_kind(self):
        for at in range(4):
            for other in OTHERS + (nested(23), (None,) * 1999, "en", [[]], {"a": [1]}):
                self.makes(MADE[:at] + (other,) + MADE[at + 1:])

    def test_each_part_bent(self):
        for made in bent(((("mw", 2),), "en", OWN, ((SOURCE,), (("b", "c"),)))):
            if type(made) is tuple and len(made) == 4:
                self.makes(made)


class NewTongue(Compares):
    def test_what_it_does(self):
        house = house_of(MADE)
        self.assertIsNone(house.new_tongue("fr", TONGUES[0], (), ()))
        house.new_tongue("de", TONGUES[2], ("fr",), (("a", "b"),))
        house.new_tongue("no", TONGUES[3], ("fr", "de"), ())
        self.assertEqual(house.its_tongues(), (
            ("de", TONGUES[2], ("de", "fr", "en"), (("a", "b"),)), ("en", OWN, ("en",), ()),
            ("fr", TONGUES[0], ("fr", "en"), ()), ("no", TONGUES[3], ("no", "fr", "de", "en"), ())))
        self.assertEqual(house.its_deeds()[1], ("tongue", "de", TONGUES[2], ("fr",), (("a", "b"),)))

    def test_each_refusal_in_its_order(self):
        words = self.all_ways(
            START, "tongue", ("it", "It", "de", "en", None), (TONGUES[0], None, NO_COVER, TWICE),
            (("de", "fr"), ("de", "de"), ("en",), ("it",), ("zz", "yy"), ["de"]), ((), (("a",),), [("a", "b")]))
        self.assertEqual(words, sorted(["stands", "BadName", "Taken", "BadTongue", "NoCover", "BadFalls", "Unknown", "BadTerms"]))

    def test_fields(self):
        self.is_refused(START, ("tongue", "de", None, None, None), "Taken", "de")
        self.is_refused(START, ("tongue", "en", None, None, None), "Taken", "en")
        self.is_refused(START, ("tongue", "it", NO_COVER, (), ()), "NoCover", ("none", (0, 0)))
        self.is_refused(START, ("tongue", "it", TONGUES[0], ("de", "zz", "yy"), ()), "Unknown", "zz")

    def test_falls(self):
        deeds = START + tuple([("tongue", name, TONGUES[3], (), ()) for name in ("it", "pl")])
        for falls in ((), ("pl", "it", "fr", "de"), ("pl", "it", "fr", "de", "zz"), ("zz",) * 2, ("a", "b", "c", "d", "e", "f"),
                      ("no",), ("de", "no"), ("en",), ("de", "en"), ("De",), ("de", None), ("de", ["fr"]), "de", {"de": 1}):
            self.refused(deeds, ("tongue", "no", TONGUES[3], falls, ()))

    def test_the_seventh_tongue(self):
        deeds = START + tuple([("tongue", name, TONGUES[3], (), ()) for name in ("it", "pl", "no")])
        self.is_refused(deeds, ("tongue", "sv", TONGUES[3], (), ()), "Full")
        self.is_refused(deeds, ("tongue", "sv", TONGUES[3], (), None), "BadTerms")
        self.is_refused(deeds, ("tongue", "sv", TONGUES[3], ("zz",), ()), "Unknown", "zz")
        self.is_refused(deeds, ("tongue", "no", TONGUES[3], (), ()), "Taken", "no")

    def test_five_falls_are_too_many_to_be_there_but_no_other_fault(self):
        deeds = START + tuple([("tongue", name, TONGUES[3], (), ()) for name in ("it", "pl", "no")])
        self.is_refused(deeds, ("tongue", "sv", TONGUES[3], ("de", "fr", "it", "pl", "no"), ()), "Full")
        self.is_refused(deeds, ("tongue", "sv", TONGUES[3], ("de", "fr", "it", "pl", "no", "zz"), ()), "BadFalls")

    def test_things_of_any_other_kind(self):
        good = ("it", TONGUES[3], ("de",), (("a", "b"),))
        for at in range(4):
            for other in list(OTHERS) + [nested(23), "de", {"a": []}] + list(bent(good[at])):
                self.refused(START, ("tongue",) + good[:at] + (other,) + good[at + 1:])


class NewRights(Compares):
    def test_what_it_does(self):
        house = house_of(MADE, START[:2])
        self.assertEqual(house.its_rights("ann"), ())
        self.assertIsNone(house.new_rights("ann", (("tell", "de"), ("look", "fr"), ("tell", "de"))))
        self.assertEqual(house.its_rights("ann"), (("tell", "de"), ("look", "fr"), ("tell", "de")))
        house.new_rights("ann", ())
        self.assertEqual(house.its_rights("ann"), ())
        self.assertEqual(house.its_rights("ann", at=3), (("tell", "de"), ("look", "fr"), ("tell", "de")))
        for other in OTHERS:
            self.assertEqual(house.its_rights(other), ())

    def test_each_refusal_in_its_order(self):
        words = self.all_ways(START, "rights", ("ann", "de", "Ann", None, ["ann"]), (
            (), RIGHTS * 3, RIGHTS * 3 + RIGHTS[:1], (("tell", "zz"), ("look", "yy")), (("tell", "en"),), (("show", "de"),),
            (("tell", "de"), ("tell", "De")), (["tell", "de"],), [("tell", "de")], (("tell",),), (("tell", "de", "fr"),), None,
            (("tell", "zz"), None)))
        self.assertEqual(words, ["BadName", "BadRights", "Unknown", "stands"])
        self.is_refused(START, ("rights", "ann", (("tell", "de"), ("look", "zz"), ("tell", "yy"))), "Unknown", "zz")

    def test_the_own_tongue_s_rights_do_nothing(self):
        deeds = START + (("rights", "ann", (("tell", "en"), ("look", "en"))),)
        self.is_refused(deeds, tell(tongue="en"), "Unknown", "en")
        self.is_refused(deeds, tell(), "NoRight")

    def test_things_of_any_other_kind(self):
        for at in range(2):
            good = ("dan", (("tell", "de"), ("look", "fr")))
            for other in list(OTHERS) + [nested(23), {"tell": "de"}] + list(bent(good[at])):
                self.refused(START, ("rights",) + good[:at] + (other,) + good[at + 1:])


class NewEdition(Compares):
    def test_what_it_does(self):
        house = house_of(MADE, START)
        later = ((PLAIN, ("c",) + SOURCE[1:]), (("a", "c"),))
        self.assertIsNone(house.new_edition(later))
        self.assertEqual(house.its_editions(), (EDITION, later))
        self.assertEqual(house.its_editions(at=5), (EDITION,))
        self.assertEqual(house.its_deeds()[-1], ("edition", later))

    def test_refusals(self):
        for edition, word, field in ((((), ()), "BadEdition", None), (None, "BadEdition", None), (list(EDITION), "BadEdition", None),
                                     (((LACKING, TOO_WIDE), ()), "BadSource", "a"), (((SOURCE, TOO_WIDE), ()), "BadSource", "b")):
            self.is_refused(START, ("edition", edition), word, field)

    def test_the_ninth_edition(self):
        deeds = START + (("edition", EDITION),) * 7
        self.is_refused(deeds, ("edition", EDITION), "Full")
        self.is_refused(deeds, ("edition", None), "BadEdition")
        self.is_refused(deeds, ("edition", ((TOO_WIDE,), ())), "BadSource", "b")
        with self.assertRaises(Full):
            house_of(MADE, deeds).new_edition(EDITION)

    def test_things_of_any_other_kind(self):
        some = seeded(201)
        things = list(bent(((SOURCE, PLAIN), (("a", "b"),))))
        for other in list(OTHERS) + [nested(23)] + some.sample(things, 400):
            self.refused(START, ("edition", other))


class TellText(Compares):
    def test_what_it_does(self):
        house = house_of(MADE, START)
        self.assertEqual(house.tell_text("ann", "de", 0, "a", DATEI), 0)
        self.assertEqual(house.tell_text("bob", "fr", 0, "b", ("x",), base=None), 1)
        self.assertEqual(house.tell_text("ann", "de", 0, "a", (SAY, "datei"), base=0), 2)
        self.assertEqual(house.its_telling(0), ("de", (0, "a"), "ann", DATEI, "new"))
        self.assertEqual(house.its_telling(1), ("fr", (0, "b"), "bob", ("x",), "new"))
        self.assertEqual(house.its_telling(2), ("de", (0, "a"), "ann", (SAY, "datei"), "new"))
        self.assertEqual(house.its_deeds()[5:], (tell(), tell(("x",), "fr", name="b", hand="bob"), tell((SAY, "datei"), base=0)))

    def test_numbers_go_on_behind_back(self):
        house = house_of(MADE, START + (tell(), tell()))
        house.back()
        self.assertEqual(house.tell_text("bob", "fr", 0, "b", ("x",)), 1)

    def test_it_is_of_the_source_s_line(self):
        changed = ("a", N, ("other ", SAY), (20, 1))
        deeds = START + (("edition", ((PLAIN, ("c",) + SOURCE[1:]), (("a", "c"),))), ("edition", ((changed, PLAIN), ())))
        house = house_of(MADE, deeds)
        for e, name, line in ((0, "a", (0, "a")), (1, "c", (0, "a")), (1, "b", (0, "b")), (2, "b", (0, "b")), (2, "a", (2, "a"))):
            number = house.tell_text("ann", "fr", e, name, ("x",) if name == "b" else (SAY,))
            self.assertEqual(house.its_telling(number)[1], line)

    def test_each_refusal_in_its_order(self):
        deeds = START + (tell(), tell(("x",), "de", name="b"), tell((SAY,), "fr"))
        words = self.all_ways(
            deeds, "tell", ("ann", "cid", "nobody"), ("de", "en", "zz"), (0, 1, True), ("a", "z"),
            (DATEI, (), ("",), ("x", SAY), (("quote", DATEI),)), (None, 0, 1, 2, 3, True))
        self.assertEqual(words, ["Faulty", "NoRight", "NoSource", "NoTelling", "Unknown", "stands"])

    def test_faults_of_each_kind(self):
        by = ("by", "n", (("one", ("datei",)),))
        for pieces, wrong in (((), (("blank", "n"), ("term", 0))), (("x", SAY), (("term", 0),)), ((by,), (("lacks", (0,)),)),
                              (["datei"], (("pieces",),)), (("datei", ""), (("pieces",),)), (None, (("pieces",),)),
                              ((SAY, "datei" + "x" * 20), (("room", {"n": (99, 0)}),))):
            self.is_refused(START, tell(pieces), "Faulty", wrong)
        with self.assertRaises(Faulty):
            house_of(MADE, START).tell_text("ann", "de", 0, "a", ())

    def test_things_of_any_other_kind(self):
        deeds = START + (tell(),)
        for other in OTHERS + (nested(23), ("ann",), {"ann": 1}, "Ann"):
            self.is_refused(deeds, tell(hand=other), "NoRight")
            self.is_refused(deeds, tell(tongue=other), "Unknown", other)
            if other != 0 or other is False:
                self.is_refused(deeds, tell(e=other), "NoSource")
                if other is not None:
                    self.is_refused(deeds, tell(base=other), "NoTelling", other)
            if other != "a":
                self.is_refused(deeds, tell(name=other), "NoSource")
        for other in list(OTHERS) + list(bent(DATEI)):
            self.refused(deeds, tell(other))

    def test_a_number_that_is_a_truth(self):
        deeds = START + (("edition", EDITION), tell(), tell())
        self.is_refused(deeds, tell(base=False), "NoTelling", False)
        self.is_refused(deeds, tell(base=True), "NoTelling", True)
        self.is_refused(deeds, tell(e=True), "NoSource")
        self.is_refused(deeds, tell(e=False), "NoSource")


class Base(Compares):
    """Tellings that say of which one they were made."""

    FIRST = ("datei ", SAY, " a", " b")

    def keeps(self, deeds, deed, pieces):
        house = house_of(MADE, deeds)
        number = do(house, deed)
        self.assertEqual(house.its_telling(number)[3], pieces)
        self.assertEqual(house.its_telling(number), plain_telling(MADE, deeds + (deed,), number))
        self.assertEqual(house.its_deeds()[-1], deed)

    def test_the_newest_is_the_base(self):
        self.keeps(START + (tell(self.FIRST),), tell(DATEI, base=0), DATEI)
        self.keeps(START + (tell(self.FIRST), tell(DATEI)), tell(("datei", SAY), base=1), ("datei", SAY))

    def test_no_base(self):
        self.keeps(START + (tell(self.FIRST), tell(DATEI)), tell(("datei", SAY)), ("datei", SAY))

    def test_the_newest_is_another_one_whatever_its_state(self):
        newest = ("x",) + self.FIRST
        for looks in ((), (("let", "bob", 1),), (("send_back", "bob", 1),), (("let", "bob", 1), ("call_back", "ann", 1)),
                      (("let", "bob", 0),), (("send_back", "bob", 0),)):
            deeds = START + (tell(self.FIRST), tell(newest)) + looks
            self.keeps(deeds, tell(self.FIRST[:-1] + ("y",), base=0), ("x",) + self.FIRST[:-1] + ("y",))

    def test_the_newest_of_this_tongue_and_line_only(self):
        deeds = START + (tell(self.FIRST), tell(("x", SAY), "fr"), tell(("x",), name="b"))
        self.keeps(deeds, tell(DATEI, base=0), DATEI)

    def test_what_was_kept_is_met_again(self):
        deeds = START + (tell(self.FIRST), tell(("x",) + self.FIRST, base=0), tell(self.FIRST + ("y",), base=0))
        self.keeps(deeds, tell(self.FIRST[:3] + ("z",), base=1), self.FIRST[:3] + ("z", "y"))
        self.keeps(deeds, tell(("x",) + self.FIRST[:-1], base=1), ("x",) + self.FIRST[:-1] + ("y",))
        self.keeps(deeds, tell(("p",) + self.FIRST + ("y",), base=2), ("p",) + self.FIRST + ("y",))

    def test_clash(self):
        deeds = START + (tell(self.FIRST), tell(self.FIRST[:2] + (" x", " b")))
        self.is_refused(deeds, tell(self.FIRST[:2] + (" y", " b"), base=0), "Clash", (2, 3))
        self.is_refused(deeds, tell(self.FIRST[:2] + (" y",), base=0), "Clash", (2, 4))

    def test_pieces_that_are_none_come_ahead_of_a_clash(self):
        deeds = START + (tell(self.FIRST), tell(self.FIRST[:2] + (" x", " b")))
        self.is_refused(deeds, tell(self.FIRST[:2] + ("", " b"), base=0), "Faulty", (("pieces",),))
        self.is_refused(deeds, tell(self.FIRST[:2] + ("y", " b", ("say", "z")), base=0), "Faulty", (("pieces",),))
        self.is_refused(deeds, tell(list(self.FIRST), base=0), "Faulty", (("pieces",),))

    def test_what_is_kept_is_looked_at_for_faults(self):
        deeds = START + (tell(self.FIRST), tell((SAY, "datei") + self.FIRST[2:]))
        self.keeps(deeds, tell(self.FIRST[:2], base=0), (SAY, "datei"))
        deeds = START + (tell(("datei", SAY, "datei ")), tell((SAY, "datei ")))
        self.is_refused(deeds, tell(("datei", SAY), base=0), "Faulty", (("term", 0),))
        deeds = START + (tell(("datei", SAY, " ", SAY)), tell(("datei", " ", SAY)))
        self.is_refused(deeds, tell(("datei", SAY, " "), base=0), "Faulty", (("blank", "n"),))
        deeds = START + (tell(("datei", SAY)), tell(("123456789", "datei", SAY)))
        self.is_refused(deeds, tell(("datei", SAY, "123456789"), base=0), "Faulty", (("room", {"n": (99, 0)}),))

    def test_what_alone_has_faults_may_be_kept(self):
        deeds = START + (tell(("a", "datei", SAY)), tell(("a", "datei", SAY, "datei")))
        self.keeps(deeds, tell(("a", "x", SAY), base=0), ("a", "x", SAY, "datei"))

    def test_more_than_8_pieces_are_none(self):
        row = ("datei", SAY) + ("x",) * 6
        deeds = START + (tell(row), tell(row[:7] + ("z",)))
        self.keeps(deeds, tell(("y",) + row[1:2] + ("datei",) + row[3:], base=0), ("y", SAY, "datei") + ("x",) * 4 + ("z",))
        deeds = START + (tell(row[:7]), tell(row[:7] + ("z",)))
        self.is_refused(deeds, tell(("y",) + row[:7], base=0), "Faulty", (("pieces",),))

    def test_no_telling_of_this_tongue_and_line(self):
        changed = ("a", N, ("other ", SAY), (20, 1))
        deeds = START + (tell(), tell(("x", SAY), "fr"), tell(("x",), name="b"), ("edition", ((changed, PLAIN), ())))
        for base in (1, 2, 3, -1, True, "0", (0,), 10 ** 39):
            self.is_refused(deeds, tell(base=base), "NoTelling", base)
        self.is_refused(deeds, tell(e=1, base=0), "NoTelling", 0)
        self.keeps(deeds, tell(("x",), e=1, name="b", base=2), ("x",))
        self.keeps(deeds, tell(base=0), DATEI)

    def test_a_base_from_another_edition_of_the_line(self):
        deeds = START + (tell(self.FIRST), ("edition", ((PLAIN, ("c",) + SOURCE[1:]), (("a", "c"),))), tell(self.FIRST + ("x",)))
        self.keeps(deeds, tell(("y",) + self.FIRST, e=1, name="c", base=0), ("y",) + self.FIRST + ("x",))


class Looks(Compares):
    TOLD = START + (tell(), tell((SAY, "datei")), tell(("x", SAY), "fr"))

    def test_what_they_do(self):
        house = house_of(MADE, self.TOLD)
        self.assertIsNone(house.let_text("bob", 0))
        self.assertIsNone(house.send_back("cid", 1))
        self.assertEqual([house.its_telling(number)[4] for number in range(3)], ["let", "sent", "new"])
        self.assertIsNone(house.call_back("cid", 0))
        self.assertEqual([house.its_telling(number)[4] for number in range(3)], ["back", "sent", "new"])
        self.assertEqual([house.its_telling(0, at=at)[4] for at in (8, 9, 10, 11)], ["new", "let", "let", "back"])
        self.assertEqual(house.its_deeds()[8:], (("let", "bob", 0), ("send_back", "cid", 1), ("call_back", "cid", 0)))

    def test_each_refusal_in_its_order(self):
        deeds = self.TOLD + (("let", "bob", 0), ("send_back", "bob", 1))
        hands = ("ann", "bob", "cid", "nobody", None, ["bob"], "Bob", ("bob",), {"bob": 1})
        numbers = (0, 1, 2, 3, -1, True, False, None, "0", (0,), [0], 10 ** 39)
        for word in ("let", "send_back"):
            self.assertEqual(self.all_ways(deeds, word, hands, numbers), ["Looked", "NoRight", "NoTelling", "Own", "stands"])
        self.assertEqual(self.all_ways(deeds, "call_back", hands, numbers), ["NoRight", "NoTelling", "NotLet", "stands"])

    def test_looks_and_their_refusals(self):
        self.is_refused(self.TOLD, ("let", "ann", 0), "Own")
        self.is_refused(self.TOLD, ("send_back", "ann", 0), "Own")
        self.is_refused(self.TOLD, ("let", "cid", 2), "NoRight")
        self.is_refused(self.TOLD, ("let", "bob", 3), "NoTelling", 3)
        self.is_refused(self.TOLD, ("let", "bob", True), "NoTelling", True)
        for look in ("let", "send_back"):
            for again in ("let", "send_back"):
                self.is_refused(self.TOLD + ((look, "bob", 0),), (again, "cid", 0), "Looked")
        back = self.TOLD + (("let", "bob", 0), ("call_back", "bob", 0))
        self.is_refused(back, ("let", "bob", 0), "Looked")

    def test_rights_count_as_they_are_now(self):
        deeds = self.TOLD + (("rights", "bob", (("tell", "de"),)),)
        self.is_refused(deeds, ("let", "bob", 0), "NoRight")
        self.assertIsNone(self.refused(deeds + (("rights", "dan", (("look", "de"),)),), ("let", "dan", 0)))

    def test_the_own_one_without_the_right_has_no_right(self):
        deeds = self.TOLD + (("rights", "ann", ()),)
        self.is_refused(deeds, ("let", "ann", 0), "NoRight")

    def test_who_may_call_back(self):
        deeds = self.TOLD + (("let", "bob", 0), ("rights", "ann", ()), ("rights", "bob", (("tell", "de"), ("look", "fr"))))
        self.assertIsNone(self.refused(deeds, ("call_back", "ann", 0)))
        self.is_refused(deeds, ("call_back", "bob", 0), "NoRight")
        self.assertIsNone(self.refused(deeds, ("call_back", "cid", 0)))

    def test_not_let(self):
        for deeds in ((), (("send_back", "bob", 0),), (("let", "bob", 0), ("call_back", "bob", 0))):
            self.is_refused(self.TOLD + deeds, ("call_back", "ann", 0), "NotLet")
        with self.assertRaises(NotLet):
            house_of(MADE, self.TOLD).call_back("ann", 0)

    def test_things_of_any_other_kind(self):
        for word in ("let", "send_back", "call_back"):
            for other in OTHERS + (nested(23), "ann", "0", (0,), [0], {"ann": 0}):
                self.refused(self.TOLD + (("let", "bob", 1),), (word, other, 0))
                self.refused(self.TOLD + (("let", "bob", 1),), (word, "bob", other))


class Long120(Compares):
    FULL = START + tuple([("rights", "dan", RIGHTS[:at % 5]) for at in range(115)])

    def test_120_deeds_and_one_more(self):
        house = house_of(MADE, self.FULL[:-1])
        self.assertEqual(len(house), 119)
        self.assertEqual(house.tell_text("ann", "de", 0, "a", DATEI), 0)
        self.assertEqual((len(house), str(house)), (120, "en 120"))
        for deed in (tell(), ("rights", "ann", ()), ("edition", EDITION), ("tongue", "it", TONGUES[0], (), ()), ("let", "bob", 0)):
            self.assertEqual(asked(do, house, deed), ("refused", "Long", None))
        self.assertEqual(house.its_deeds(), self.FULL[:-1] + (tell(),))
        house.back()
        house.new_edition(EDITION)
        self.assertEqual(len(house), 120)

    def test_long_comes_ahead_of_all_else(self):
        house = house_of(MADE, self.FULL)
        for deed in (tell(hand=None), ("rights", None, None), ("edition", None), ("tongue", None, None, None, None),
                     ("let", None, None), ("send_back", "bob", 5), ("call_back", [], {})):
            self.assertEqual(asked(do, house, deed), ("refused", "Long", None))
        with self.assertRaises(Long):
            house.new_rights("ann", ())


class SomeDeeds(Compares):
    def test_some_deeds_as_the_words_say(self):
        words = {}
        for seed in range(40):
            some = seeded(2100 + seed)
            made = some_made(some)
            house = house_of(made)
            deeds = ()
            for deed in first_deeds(some) + [None] * 50:
                deed = deed or some_deed(some, made, deeds)
                plain = refusal(made, deeds, deed)
                told = asked(do, house, deed)
                if plain is None:
                    self.assertNotIsInstance(told, tuple)
                    deeds += (deed,)
                else:
                    self.assertEqual(told, ("refused", plain.word, plain.field))
                self.assertEqual(house.its_deeds(), deeds)
                words[plain.word if plain else deed[0]] = True
                if deeds and some.random() < 0.08:
                    self.assertIsNone(house.back())
                    deeds = deeds[:-1]
            self.stays(house, deeds, made)
        for word in ("Own", "Looked", "Clash", "Faulty", "NotLet", "NoRight", "Taken", "tell", "let", "call_back", "edition"):
            self.assertIn(word, words)


class Words(unittest.TestCase):
    def test_arguments_as_the_document_names_them(self):
        house = house_of(MADE)
        house.new_tongue(name="de", tongue=TONGUES[0], falls=(), terms=())
        house.new_rights(name="ann", rights=RIGHTS[:1])
        house.new_edition(edition=EDITION)
        self.assertEqual(house.tell_text(hand="ann", tongue="de", e=0, name="a", pieces=DATEI, base=None), 0)
        with self.assertRaises(TypeError):
            house.tell_text("ann", "de", 0, "a", DATEI, 0)


if __name__ == "__main__":
    unittest.main()
