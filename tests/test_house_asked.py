import collections
import itertools
import unittest

from tests.asking import all_alike, all_asked, all_places, asked, house_of
from tests.bending import OTHERS, bent, nested
from tests.making import OWN, TONGUES, few_given, some_deeds, some_made
from tests.oracle import lines_of, seeded
from tests.oracle_house import (
    of_word, plain_asked, plain_editions, plain_list_row, plain_paper, plain_rights, plain_telling, plain_tongues,
    refuse_asked, source_of,
)
from tests.test_editions import plain_lines
from tests.test_house_deeds import DATEI, EDITION, MADE, N, PLAIN, SAY, SOURCE, START, tell
from tonguehouse.whys import is_why

TOLD = START + (tell(), tell((SAY, "datei")), ("let", "bob", 0), ("edition", EDITION), ("let", "cid", 1))
GIVEN = {"n": (7, 0)}
MOMENTS = OTHERS + (-1, 11, 10 ** 12, "0", (0,), [0], nested(23), "now")


def is_moment(at, many):
    return at is None or type(at) is int and 0 <= at <= many


class Moments(unittest.TestCase):
    def test_moments_that_are_none(self):
        house = house_of(MADE, TOLD)
        questions = (house.its_editions, house.its_tongues, lambda at: house.its_rights("ann", at=at),
                     lambda at: house.list_for(0, "en", at=at), lambda at: house.show_text(0, "en", "a", GIVEN, at=at),
                     lambda at: house.found_for(0, "en", "a", at=at), lambda at: house.why_shown(0, "en", "a", GIVEN, at=at))
        for question, at in itertools.product(questions, MOMENTS):
            told = asked(question, at=at)
            self.assertEqual(told == ("refused", "NoMoment", None), not is_moment(at, 10), at)
        for at in range(12):
            self.assertEqual(asked(house.its_editions, at=at) == ("refused", "NoMoment", None), at == 11)

    def test_no_moment_comes_ahead_of_all_other_refusals(self):
        house = house_of(MADE, TOLD)
        for at, other in itertools.product((-1, 11, True, "0", [], {}), OTHERS):
            for told in (asked(house.its_telling, other, at=at), asked(house.its_rights, other, at=at),
                         asked(house.show_text, other, other, other, other, at=at), asked(house.list_for, other, other, at=at),
                         asked(house.found_for, other, other, other, at=at),
                         asked(house.why_shown, other, other, other, other, at=at)):
                self.assertEqual(told, ("refused", "NoMoment", None))

    def test_at_is_asked_by_its_name_only(self):
        house = house_of(MADE, TOLD)
        for question in (house.its_editions, house.its_tongues):
            with self.assertRaises(TypeError):
                question(0)
        with self.assertRaises(TypeError):
            house.its_telling(0, 8)

    def test_what_stood_at_each_moment(self):
        house = house_of(MADE, TOLD)
        self.assertEqual([len(house.its_tongues(at=at)) for at in range(11)], [1, 2] + [3] * 9)
        self.assertEqual([len(house.its_editions(at=at)) for at in range(11)], [1] * 9 + [2] * 2)
        self.assertEqual([len(house.its_rights("cid", at=at)) for at in range(11)], [0] * 5 + [1] * 6)
        states = [asked(house.its_telling, 1, at=at) for at in range(11)]
        self.assertEqual(states[:7], [("refused", "NoTelling", 1)] * 7)
        self.assertEqual([told[4] for told in states[7:]], ["new", "new", "new", "let"])
        self.assertEqual([asked(house.found_for, 0, "de", "a", at=at) for at in range(11)],
                         [("refused", "Unknown", "de")] + [("en", None)] * 7 + [("de", 0)] * 2 + [("de", 1)])

    def test_its_telling(self):
        house = house_of(MADE, TOLD)
        self.assertEqual(house.its_telling(0), ("de", (0, "a"), "ann", DATEI, "let"))
        for number in OTHERS + (2, "0", (0,), [0], nested(23)):
            if number not in (0, 1) or type(number) is bool:
                self.assertEqual(repr(asked(house.its_telling, number)), repr(("refused", "NoTelling", number)))

    def test_each_moment_against_a_house_made_anew(self):
        for seed in range(12):
            some = seeded(2400 + seed)
            made = some_made(some)
            deeds = some_deeds(some, made, 40)
            house = house_of(made, deeds)
            before = [all_asked(house_of(made, deeds[:many]), all_alike) for many in range(len(deeds) + 1)]
            for many in range(len(deeds) + 1):
                self.assertEqual(all_asked(house, all_alike, at=many), before[many])
            self.assertEqual(all_asked(house, all_alike), before[-1])
            for many in range(len(deeds) - 1, -1, -5):
                while len(house) > many:
                    house.back()
                self.assertEqual(all_asked(house, all_alike), before[many])

    def test_what_stands_as_the_words_say(self):
        for seed in range(25):
            some = seeded(2450 + seed)
            made = some_made(some)
            deeds = some_deeds(some, made, 40)
            house = house_of(made, deeds)
            for at in [None] + list(range(0, len(deeds) + 1, 3)):
                ahead = deeds[:at]
                self.assertEqual(house.its_editions(at=at), plain_editions(made, ahead))
                self.assertEqual(house.its_tongues(at=at), plain_tongues(made, ahead))
                for hand in ("ann", "bob", "cid", "dan"):
                    self.assertEqual(house.its_rights(hand, at=at), plain_rights(ahead, hand))
                for number in range(len(of_word(deeds, "tell")) + 1):
                    self.assertEqual(asked(house.its_telling, number, at=at), plain_asked(plain_telling, made, ahead, number))


class Shown(unittest.TestCase):
    def finds(self, deeds, e, tongue, name, found, text=None, given=GIVEN):
        house = house_of(MADE, deeds)
        self.assertEqual(house.found_for(e, tongue, name), found)
        if text is not None:
            before = repr(given)
            self.assertEqual(house.show_text(e, tongue, name, given), text)
            self.assertEqual(repr(given), before)

    def test_the_source_itself(self):
        for tongue in ("en", "de", "fr"):
            self.finds(START, 0, tongue, "a", ("en", None), "the file 7")
            self.finds(START + (tell(),), 0, tongue, "a", ("en", None), "the file 7")
        self.finds(START, 0, "fr", "b", ("en", None), "open", given={})

    def test_only_what_is_let_and_not_called_back(self):
        for looks, found in (((), ("en", None)), ((("let", "bob", 0),), ("de", 0)), ((("send_back", "bob", 0),), ("en", None)),
                             ((("let", "bob", 0), ("call_back", "ann", 0)), ("en", None))):
            self.finds(START + (tell(),) + looks, 0, "de", "a", found, "datei 7" if found[1] == 0 else "the file 7")

    def test_fallbacks_through_the_row(self):
        de, fr = (tell(), ("let", "bob", 0)), (tell(("f", SAY), "fr"), ("let", "bob", 1))
        self.finds(START + de, 0, "fr", "a", ("de", 0), "datei 7")
        self.finds(START + de + fr, 0, "fr", "a", ("fr", 1), "f7")
        self.finds(START + de + fr, 0, "de", "a", ("de", 0), "datei 7")
        self.finds(START + de + fr, 0, "en", "a", ("en", None), "the file 7")
        self.finds(START + de + fr + (("call_back", "ann", 1),), 0, "fr", "a", ("de", 0), "datei 7")
        self.finds(START + de + fr + (("call_back", "ann", 0), ("call_back", "ann", 1)), 0, "fr", "a", ("en", None))

    def test_falls_in_their_order_and_not_over_them(self):
        deeds = START + (("tongue", "it", TONGUES[0], ("fr", "de"), ()), ("tongue", "pl", TONGUES[0], ("it",), ()),
                         tell(), ("let", "bob", 0))
        self.finds(deeds, 0, "it", "a", ("de", 0), "datei 7")
        self.finds(deeds, 0, "pl", "a", ("en", None), "the file 7")
        deeds += (tell(("f", SAY), "fr"), ("let", "bob", 1))
        self.finds(deeds, 0, "it", "a", ("fr", 1), "f7")

    def test_each_in_its_own_manner_and_forms(self):
        source = ("a", (("n", "number", (0, 9999, 0)),), ("the ", SAY), (20, 1))
        made = ((), "en", OWN, ((source,), ()))
        every = ("tongue", "it", TONGUES[3], ("de",), ())
        deeds = (("tongue", "de", (OWN[0], ("'", ",", "y", ("", ""))), (), ()), every,
                 ("rights", "ann", (("tell", "de"), ("tell", "it"))), ("rights", "bob", (("look", "de"), ("look", "it"))),
                 ("tell", "ann", "de", 0, "a", ("d ", SAY), None), ("let", "bob", 0))
        house = house_of(made, deeds)
        self.assertEqual(house.show_text(0, "en", "a", {"n": (1234, 0)}), "the 1,234")
        self.assertEqual(house.show_text(0, "it", "a", {"n": (1234, 0)}), "d 1'234")
        house.tell_text("ann", "it", 0, "a", (("by", "n", (("all", ("i ", SAY)),)),))
        house.let_text("bob", 1)
        self.assertEqual(house.show_text(0, "it", "a", {"n": (1234, 0)}), "i 1,234")

    def test_the_one_whose_let_deed_came_last(self):
        tells = tuple([tell(("datei" + letter, SAY)) for letter in "abc"])
        for order in itertools.permutations(range(3)):
            deeds = START + tells + tuple([("let", "bob", number) for number in order])
            self.finds(deeds, 0, "de", "a", ("de", order[-1]), "datei" + "abc"[order[-1]] + "7")
            self.finds(deeds + (("call_back", "bob", order[-1]),), 0, "de", "a", ("de", order[-2]))
            self.finds(deeds + (("call_back", "bob", order[-2]),), 0, "de", "a", ("de", order[-1]))

    def test_lines_over_editions_and_names_that_change(self):
        later = ((("c",) + SOURCE[1:], ("d",) + PLAIN[1:]), (("a", "c"), ("b", "d")))
        deeds = START + (tell(), ("let", "bob", 0), ("edition", later))
        self.finds(deeds, 1, "de", "c", ("de", 0), "datei 7")
        self.finds(deeds + (tell((SAY, "datei"), e=1, name="c"), ("let", "bob", 1)), 0, "de", "a", ("de", 1), "7datei")
        changed = ((("a", N, ("the files ", SAY), (20, 1)), PLAIN), ())
        self.finds(deeds[:-1] + (("edition", changed),), 1, "de", "a", ("en", None), "the files 7")
        self.finds(deeds[:-1] + (("edition", changed),), 0, "de", "a", ("de", 0), "datei 7")
        self.finds(deeds[:-1] + (("edition", changed), ("edition", EDITION)), 2, "de", "a", ("en", None), "the file 7")

    def test_exchanged_names(self):
        one, other = ("a", (), ("x",), (9, 1)), ("b", (), ("y",), (9, 1))
        made = ((), "en", OWN, ((one, other), ()))
        turned = ((("a",) + other[1:], ("b",) + one[1:]), (("a", "b"), ("b", "a")))
        deeds = (("tongue", "de", TONGUES[0], (), ()), ("rights", "ann", (("tell", "de"),)), ("rights", "bob", (("look", "de"),)))
        house = house_of(made, deeds + (tell(("ix",)), ("let", "bob", 0), ("edition", turned)))
        self.assertEqual(house.found_for(1, "de", "b"), ("de", 0))
        self.assertEqual(house.found_for(1, "de", "a"), ("en", None))

    def test_rooms_that_change_from_edition_to_edition(self):
        deeds = START + (tell(("datei   datei", SAY)), ("let", "bob", 0), tell(), ("let", "bob", 1))
        deeds += (("edition", ((SOURCE[:3] + ((12, 1),), PLAIN), ())), tell(("datei datei ", SAY)), ("let", "bob", 2))
        self.finds(deeds, 0, "de", "a", ("de", 2), "datei datei 7")
        house = house_of(MADE, deeds[:-2])
        self.assertEqual(house.found_for(1, "de", "a"), ("de", 1))
        self.assertEqual(house.why_shown(1, "de", "a", GIVEN)[0], (("de", ((0, "room"), (1, "serves"))),))
        house.new_edition(((SOURCE[:3] + ((6, 3),), PLAIN), ()))
        self.assertEqual(house.found_for(2, "de", "a"), ("de", 1))
        house.call_back("bob", 1)
        self.assertEqual(house.found_for(2, "de", "a"), ("en", None))
        self.assertEqual(house.found_for(0, "de", "a"), ("de", 0))

    def test_beyond_the_room_for_some_given_things_only(self):
        by = ("by", "n", (("one", ("datei aaaaaaaaaaaaaa",)), ("other", ("datei", SAY))))
        deeds = START + (tell((by,)), ("let", "bob", 0), ("edition", ((SOURCE[:3] + ((19, 1),), PLAIN), ())))
        self.finds(deeds, 0, "de", "a", ("de", 0), "datei7")
        self.finds(deeds, 1, "de", "a", ("en", None), "the file 7")


class Refusals(unittest.TestCase):
    def test_each_in_its_order(self):
        house = house_of(MADE, TOLD)
        choices = ((0, 1, 2, -1, True, None), ("de", "en", "zz", ["de"]), ("a", "z", None), (GIVEN, {}, {"n": (100, 0)}, None))
        words = collections.Counter()
        for things in itertools.product(*choices):
            for question, many in ((house.show_text, 4), (house.why_shown, 4), (house.found_for, 3), (house.list_for, 2)):
                told = asked(question, *things[:many])
                plain = plain_asked(refuse_asked, MADE, TOLD, *things[:many])
                if plain is None:
                    self.assertNotEqual(told[0], "refused")
                else:
                    self.assertEqual(repr(told), repr(plain))
                    words[plain[1]] += 1
        self.assertEqual(set(words), {"NoEdition", "Unknown", "NoSource", "BadGiven"})

    def test_things_of_any_kind(self):
        house = house_of(MADE, TOLD)
        good = (0, "de", "a", GIVEN)
        for at in range(4):
            for other in list(OTHERS) + [nested(23), (None,) * 1999] + list(bent(good[at])):
                things = good[:at] + (other,) + good[at + 1:]
                plain = plain_asked(refuse_asked, MADE, TOLD, *things)
                for question, many in ((house.show_text, 4), (house.why_shown, 4), (house.found_for, 3), (house.list_for, 2)):
                    told = asked(question, *things[:many])
                    if at < many and plain is not None:
                        self.assertEqual(repr(told), repr(plain), other)
                    else:
                        self.assertNotEqual(told[0], "refused", other)


class Whys(unittest.TestCase):
    def test_each_word_of_the_reasons(self):
        deeds = START + (tell(("datei    ", SAY, "xxxxxxx")), ("let", "bob", 0), tell(("x",), name="b"), ("let", "bob", 1), tell(),
                         ("let", "bob", 2), tell(), ("send_back", "bob", 3), tell(), ("let", "bob", 4), ("call_back", "ann", 4), tell(),
                         tell((SAY, " datei")), ("let", "bob", 6), ("edition", ((SOURCE[:3] + ((12, 1),), PLAIN), ())))
        house = house_of(MADE, deeds)
        reasons = ((0, "room"), (1, "line"), (2, "elder"), (3, "sent"), (4, "back"), (5, "new"), (6, "serves"))
        self.assertEqual(house.why_shown(1, "de", "a", GIVEN), ((("de", reasons),), 6, (), "7 datei"))
        rows = (("fr", ()), ("de", ((0, "elder"),) + reasons[1:]))
        self.assertEqual(house.why_shown(0, "fr", "a", GIVEN), (rows, 6, (), "7 datei"))
        self.assertEqual(house.why_shown(0, "en", "a", GIVEN), ((("en", ()),), None, (), "the file 7"))

    def test_reasons_reach_up_to_the_moment_only(self):
        house = house_of(MADE, TOLD)
        self.assertEqual(house.why_shown(0, "de", "a", GIVEN, at=6)[0], (("de", ((0, "new"),)), ("en", ())))
        self.assertEqual(house.why_shown(0, "de", "a", GIVEN, at=8)[0], (("de", ((0, "serves"), (1, "new"))),))
        self.assertEqual(house.why_shown(0, "de", "a", GIVEN, at=10)[0], (("de", ((0, "elder"), (1, "serves"))),))

    def test_some_houses_as_the_words_say(self):
        words = collections.Counter()
        for seed in range(30):
            some = seeded(2600 + seed)
            made = some_made(some)
            deeds = some_deeds(some, made, 45)
            house = house_of(made, deeds)
            for many in some.sample(range(len(deeds) + 1), 8) + [len(deeds)]:
                places = all_places(made, deeds[:many])
                for e, tongue, source in some.sample(places, min(6, len(places))):
                    given = few_given(some, source[1])
                    paper = plain_paper(made, deeds[:many], e, tongue, source[0], given)
                    self.assertEqual(house.why_shown(e, tongue, source[0], given, at=many), paper)
                    self.assertEqual(house.show_text(e, tongue, source[0], given, at=many), paper[3])
                    row = plain_list_row(made, deeds[:many], e, tongue, source[0])
                    self.assertEqual(house.found_for(e, tongue, source[0], at=many), row[1:3])
                    self.assertIs(is_why(made, deeds[:many], e, tongue, source[0], given, paper), True)
                    now = asked(house.why_shown, e, tongue, source[0], given)
                    told = is_why(made, deeds, e, tongue, source[0], given, paper)
                    self.assertIs(told, now == paper)
                    words.update([word for row in paper[0] for number, word in row[1]])
        for word in ("line", "new", "sent", "back", "room", "elder", "serves"):
            self.assertGreater(words[word], 0, words)


class ByTheDeedsAlone(unittest.TestCase):
    """What [26] and [2] say of all that is shown."""

    def test_what_is_shown_was_let_by_another_hand_and_fits(self):
        served = 0
        for seed in range(30):
            some = seeded(2700 + seed)
            made = some_made(some)
            deeds = some_deeds(some, made, 45)
            house = house_of(made, deeds)
            for e, tongue, source in all_places(made, deeds):
                found, number = house.found_for(e, tongue, source[0])
                for time in range(4):
                    text = house.show_text(e, tongue, source[0], few_given(some, source[1]))
                    lines = lines_of(made[0], source[3][0], text)
                    self.assertTrue(lines is not None and len(lines) <= source[3][1])
                if number is None:
                    self.assertEqual(found, "en")
                    continue
                served += 1
                its_tongue, line, hand, pieces, state = house.its_telling(number)
                self.assertEqual((its_tongue, state), (found, "let"))
                self.assertEqual(line, plain_lines(plain_editions(made, deeds))[e, source[0]])
                looks = [deed for deed in deeds if deed[0] in ("let", "send_back", "call_back") and deed[2] == number]
                self.assertEqual([deed[0] for deed in looks], ["let"])
                self.assertNotEqual(looks[0][1], hand)
        self.assertGreater(served, 100)

    def test_a_changed_source_makes_stale_just_its_own_tellings(self):
        stale = kept = 0
        for seed in range(60):
            some = seeded(2800 + seed)
            made = some_made(some)
            deeds = some_deeds(some, made, 40)
            for many in range(len(deeds)):
                if deeds[many][0] != "edition":
                    continue
                house = house_of(made, deeds[:many + 1])
                editions = house.its_editions()
                lines = plain_lines(editions)
                e = len(editions) - 1
                for tongue, source in itertools.product([row[0] for row in house.its_tongues()], editions[e][0]):
                    elders = [place for place in lines if place[0] == e - 1 and lines[place] == lines[e, source[0]]]
                    found = house.found_for(e, tongue, source[0])
                    if not elders:
                        self.assertEqual(found, ("en", None))
                        stale += 1
                    elif source_of(made, deeds[:many], e - 1, elders[0][1])[3] == source[3]:
                        self.assertEqual(found, house.found_for(e - 1, tongue, elders[0][1]))
                        self.assertEqual(found, house.found_for(e - 1, tongue, elders[0][1], at=many))
                        kept += found[1] is not None
        self.assertTrue(stale > 50 and kept > 20, (stale, kept))


if __name__ == "__main__":
    unittest.main()
