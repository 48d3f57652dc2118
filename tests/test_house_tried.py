import unittest

from tests.asking import all_alike, all_asked, asked, do, house_of
from tests.making import OWN, TONGUES, some_deed, some_deeds, some_made
from tests.oracle import seeded
from tests.oracle_house import of_word, refusal
from tests.test_house_deeds import DATEI, EDITION, MADE, SAY, SOURCE, START, tell
from tonguehouse.errors import Busy, Looked, Own
from tonguehouse.houses import House

TOLD = START + (tell(), tell((SAY, "datei")), ("let", "bob", 0))
FULL = START + tuple([("rights", "dan", ())]) * 115


class Raised(Exception):
    pass


class Back(unittest.TestCase):
    def test_over_each_kind_of_deed(self):
        deeds = TOLD + (("send_back", "bob", 1), ("call_back", "bob", 0), ("edition", EDITION))
        self.assertEqual({deed[0] for deed in deeds}, {"tongue", "rights", "tell", "let", "send_back", "call_back", "edition"})
        house = house_of(MADE, deeds)
        for many in range(len(deeds) - 1, -1, -1):
            self.assertIsNone(house.back())
            self.assertEqual(house.its_deeds(), deeds[:many])
            self.assertEqual(len(house), many)
            self.assertEqual(house, house_of(MADE, deeds[:many]))
            self.assertEqual(all_asked(house, all_alike), all_asked(house_of(MADE, deeds[:many]), all_alike))
        self.assertEqual(asked(house.back), ("refused", "NothingBack", None))
        self.assertEqual(house, house_of(MADE))

    def test_other_deeds_behind_back(self):
        house = house_of(MADE, TOLD)
        for time in range(2):
            house.back()
        house.tell_text("bob", "de", 0, "b", ("x",))
        house.let_text("ann", 1)
        self.assertEqual(house.found_for(0, "de", "b"), ("de", 1))
        self.assertEqual(house.found_for(0, "de", "a"), ("en", None))
        house.back()
        house.send_back("ann", 1)
        self.assertEqual(house.found_for(0, "de", "b"), ("en", None))

    def test_a_telling_of_the_same_number_in_a_narrower_room(self):
        house = house_of(MADE, START + (tell(("datei  xxxxxxxxx", SAY)), ("let", "bob", 0)))
        self.assertEqual(house.found_for(0, "de", "a"), ("de", 0))
        for time in range(2):
            house.back()
        for deed in (tell(("datei", SAY)), ("let", "bob", 0), ("edition", ((SOURCE[:3] + ((9, 3),),), ()))):
            do(house, deed)
        self.assertEqual(house.found_for(1, "de", "a"), ("de", 0))


class Tried(unittest.TestCase):
    def same(self, house, deeds):
        self.assertEqual(house.its_deeds(), deeds)
        self.assertEqual(house, house_of(MADE, deeds))
        self.assertEqual(all_asked(house, all_alike), all_asked(house_of(MADE, deeds), all_alike))

    def test_all_stand_as_deeds_of_their_own(self):
        for handed in (tuple, list):
            house = house_of(MADE, START)
            self.assertEqual(house.tried(handed(TOLD[5:])), (0, 1))
            self.same(house, TOLD)
            house.back()
            self.same(house, TOLD[:-1])

    def test_the_numbers_of_its_tellings(self):
        house = house_of(MADE)
        self.assertEqual(house.tried(START), ())
        self.assertEqual(house.tried([tell()]), (0,))
        self.assertEqual(house.tried((("rights", "dan", ()), tell(("x", SAY), "fr"), ("edition", EDITION), tell(base=0))), (1, 2))
        self.assertIs(type(house.tried([tell(base=2)])), tuple)

    def test_none_does_nothing(self):
        house = house_of(MADE, TOLD)
        for none in ((), []):
            self.assertEqual(house.tried(none), ())
            self.assertEqual(house.tried(none, tell=lambda house: 1 // 0), ())
        self.same(house, TOLD)
        self.assertEqual(house.its_log(), (("begin", 0), ("end", 0)) * 4)

    def test_tell_is_called_behind_each_deed(self):
        house = house_of(MADE, START)
        heard = []
        deeds = list(TOLD[5:])
        self.assertEqual(house.tried(deeds, tell=lambda it: heard.append((it is house, len(it), it.its_deeds()))), (0, 1))
        self.assertEqual(heard, [(True, 5 + many, TOLD[:5 + many]) for many in (1, 2, 3)])
        self.assertEqual(deeds, list(TOLD[5:]))

    def test_what_tell_tells_does_not_count(self):
        house = house_of(MADE, START)
        self.assertEqual(house.tried([tell()], tell=lambda it: False), (0,))
        self.assertEqual(len(house), 6)

    def test_one_is_refused(self):
        for at, deed, word in ((0, ("let", "ann", 0), "NoTelling"), (2, ("let", "ann", 0), "Own"), (3, ("let", "bob", 0), "Looked"),
                               (3, tell(hand="cid"), "NoRight"), (1, tell(()), "Faulty"), (3, ("tongue", "de", 1, 2, 3), "Taken")):
            house = house_of(MADE, START)
            heard = []
            deeds = TOLD[5:5 + at] + (deed,) + TOLD[5 + at:]
            told = asked(house.tried, deeds, tell=lambda it: heard.append(len(it)))
            self.assertEqual(told[1], word)
            self.assertEqual(heard, list(range(6, 6 + at)))
            self.same(house, START)
            self.assertEqual(house.its_log(), (("begin", len(deeds)), ("end", 0)))
            self.assertEqual(house.tried(TOLD[5:]), (0, 1))

    def test_what_was_raised_goes_through(self):
        house = house_of(MADE, START)
        with self.assertRaises(Own):
            house.tried((tell(), ("let", "ann", 0)))
        with self.assertRaises(Looked):
            house.tried((tell(), ("let", "bob", 0), ("let", "cid", 0)))
        self.assertEqual(asked(house.tried, (tell(), tell(()))), ("refused", "Faulty", (("blank", "n"), ("term", 0))))

    def test_tell_raises(self):
        for raised in (Raised("x"), ValueError("x"), KeyError(1), KeyboardInterrupt(), StopIteration(), Own("x"), Busy("x")):
            for last in (6, 7, 8):
                house = house_of(MADE, START)
                heard = []

                def hear(it):
                    heard.append(len(it))
                    if len(it) == last:
                        raise raised

                with self.assertRaises(type(raised)) as caught:
                    house.tried(TOLD[5:], tell=hear)
                self.assertIs(caught.exception, raised)
                self.assertEqual(heard, list(range(6, last + 1)))
                self.same(house, START)
                self.assertEqual(house.its_log(), (("begin", 3), ("end", 0)))
                self.assertEqual(house.tried(TOLD[5:]), (0, 1))
                self.assertEqual(house.its_log(), (("begin", 3), ("end", 0), ("begin", 3), ("end", 3)))

    def test_long_within_tried(self):
        house = house_of(MADE, FULL[:118])
        self.assertEqual(asked(house.tried, (tell(), tell(), tell(()))), ("refused", "Long", None))
        self.same(house, FULL[:118])
        self.assertEqual(house.tried((tell(), tell())), (0, 1))
        self.assertEqual(len(house), 120)
        self.assertEqual(house.tried(()), ())
        self.assertEqual(asked(house.tried, (("rights", None, None),)), ("refused", "Long", None))

    def test_a_list_that_is_changed_within_tell(self):
        house = house_of(MADE, START)
        deeds = list(TOLD[5:])
        self.assertEqual(house.tried(deeds, tell=lambda it: deeds.clear()), (0, 1))
        self.same(house, TOLD)
        house = house_of(MADE, START)
        deeds = [tell()]
        self.assertEqual(house.tried(deeds, tell=lambda it: deeds.append(tell())), (0,))
        self.assertEqual(house.its_log(), (("begin", 1), ("end", 1)))
        self.assertEqual(deeds, [tell(), tell()])
        house = house_of(MADE, START)
        deeds = [tell(), tell()]

        def turn(it):
            deeds[1] = tell(())

        self.assertEqual(house.tried(deeds, tell=turn), (0, 1))

    def test_things_in_deeds_may_be_whatever_they_are(self):
        house = house_of(MADE, START)
        for deed, told in ((tell(tongue=["de"]), ("Unknown", ["de"])), (tell(base={"a": 1}), ("NoTelling", {"a": 1})),
                           (("let", None, [0]), ("NoTelling", [0])), (("tongue", "it", TONGUES[0], ["de"], ()), ("BadFalls", None))):
            self.assertEqual(asked(house.tried, [("rights", "dan", ()), deed]), ("refused",) + told)
            self.same(house, START)


class BusyHouse(unittest.TestCase):
    def within(self, question, house=None):
        """What is told where the question is asked within tell."""
        house = house or house_of(MADE, START)
        heard = []
        house.tried((tell(), tell((SAY, "datei"))), tell=lambda it: heard.append(asked(question, it)))
        return heard

    def test_deeds_back_and_tried(self):
        deeds = (("tongue", "it", TONGUES[0], (), ()), ("rights", "ann", ()), ("edition", EDITION), tell(), ("let", "bob", 0),
                 ("send_back", "bob", 0), ("call_back", "bob", 0))
        for deed in deeds:
            self.assertEqual(self.within(lambda it: do(it, deed)), [("refused", "Busy", None)] * 2)
            self.assertEqual(self.within(lambda it: it.tried((deed,))), [("refused", "Busy", None)] * 2)
        self.assertEqual(self.within(lambda it: it.back()), [("refused", "Busy", None)] * 2)
        self.assertEqual(self.within(lambda it: it.tried(())), [("refused", "Busy", None)] * 2)

    def test_ahead_of_all_else(self):
        wrong = (("tongue", None, 1, 2, 3), ("rights", None, None), ("edition", None), tell(hand=[]), ("let", None, None),
                 ("send_back", {}, 5), ("call_back", 1, True))
        for deed in wrong:
            for start in (START, FULL[:118]):
                told = self.within(lambda it: do(it, deed), house_of(MADE, start))
                self.assertEqual(told, [("refused", "Busy", None)] * 2)

    def test_it_leaves_nothing(self):
        house = house_of(MADE, START)
        self.within(lambda it: it.tried((tell(),)), house)
        self.assertEqual(house.its_deeds(), START + (tell(), tell((SAY, "datei"))))
        self.assertEqual(house.its_log(), (("begin", 2), ("end", 2)))
        house.back()
        self.assertEqual(house.tell_text("ann", "de", 0, "a", DATEI), 1)

    def test_busy_that_goes_through_tell(self):
        house = house_of(MADE, START)
        with self.assertRaises(Busy):
            house.tried((tell(),), tell=lambda it: it.back())
        self.assertEqual(house.its_deeds(), START)
        self.assertEqual(house.its_log(), (("begin", 1), ("end", 0)))
        house.back()

    def test_all_else_may_be_asked(self):
        told = self.within(lambda it: (all_asked(it, all_alike), len(it), str(it), it.its_log(), it == house_of(MADE, START)))
        for many, (answers, length, text, log, equal) in enumerate(told):
            twin = house_of(MADE, START + (tell(), tell((SAY, "datei")))[:many + 1])
            self.assertEqual(answers, all_asked(twin, all_alike))
            self.assertEqual((length, text, log, equal), (6 + many, f"en {6 + many}", (("begin", 2),), False))
        told = self.within(lambda it: [it.its_editions(at=at) for at in range(len(it) + 1)])
        self.assertEqual([len(answers) for answers in told], [7, 8])

    def test_another_house_is_free(self):
        other = house_of(MADE, START)
        self.assertEqual(self.within(lambda it: other.tell_text("ann", "de", 0, "a", DATEI)), [0, 1])
        self.assertEqual(len(other), 7)


class Log(unittest.TestCase):
    def test_begin_and_end(self):
        house = house_of(MADE, START)
        self.assertEqual(house.its_log(), ())
        house.tried((tell(), tell()))
        self.assertEqual(house.its_log(), (("begin", 2), ("end", 2)))
        asked(house.tried, (tell(), tell(()), tell()))
        self.assertEqual(house.its_log(), (("begin", 2), ("end", 2), ("begin", 3), ("end", 0)))
        self.assertIs(type(house.its_log()), tuple)

    def test_the_last_8(self):
        house = house_of(MADE, START)
        logs = ()
        for many in (1, 0, 2, 3, 0, 1, 2):
            house.tried((tell(),) * many, tell=lambda it: self.assertEqual(it.its_log(), (logs + (("begin", many),))[-8:]))
            logs += (("begin", many), ("end", many))
            self.assertEqual(house.its_log(), logs[-8:])

    def test_deeds_and_back_leave_none(self):
        house = house_of(MADE, START)
        house.tried((tell(),))
        house.back()
        do(house, tell())
        asked(do, house, tell(()))
        self.assertEqual(house.its_log(), (("begin", 1), ("end", 1)))


class Alike(unittest.TestCase):
    def test_equal_houses(self):
        self.assertTrue(house_of(MADE) == house_of(MADE))
        self.assertTrue(house_of(MADE, TOLD) == house_of(MADE, TOLD))
        one, other = house_of(MADE, TOLD), house_of(MADE, START)
        self.assertFalse(one == other)
        self.assertTrue(one != other)
        other.tried(TOLD[5:])
        self.assertTrue(one == other)
        other.back()
        self.assertFalse(one == other)

    def test_another_of_the_things_it_is_made_of(self):
        others = ((("a", 2),), "de", TONGUES[0], ((SOURCE,), ()))
        for at in range(4):
            made = MADE[:at] + (others[at],) + MADE[at + 1:]
            self.assertFalse(house_of(MADE) == house_of(made))
            self.assertTrue(house_of(made) == house_of(made))

    def test_the_same_deeds_in_another_order(self):
        self.assertFalse(house_of(MADE, START) == house_of(MADE, START[:2] + (START[3], START[2]) + START[4:]))

    def test_equal_to_nothing_else(self):
        house = house_of(MADE, START)
        for other in (None, 0, "en 5", START, MADE, [], {}, house.its_deeds(), (MADE, START), True):
            self.assertFalse(house == other)
            self.assertFalse(other == house)
            self.assertTrue(house != other)

    def test_len_and_str(self):
        for many in range(len(TOLD) + 1):
            house = house_of(MADE, TOLD[:many])
            self.assertEqual((len(house), str(house)), (many, f"en {many}"))
        self.assertEqual(str(House((), "abcdefgh", OWN, EDITION)), "abcdefgh 0")

    def test_its_deeds_make_the_house_anew(self):
        for seed in range(15):
            some = seeded(2200 + seed)
            made = some_made(some)
            deeds = some_deeds(some, made, 50)
            house = house_of(made, deeds)
            twin = House(*made)
            tells = twin.tried(house.its_deeds())
            self.assertEqual(tells, tuple(range(len(of_word(deeds, "tell")))))
            self.assertEqual(twin, house)
            self.assertEqual(all_asked(twin, all_alike), all_asked(house, all_alike))


class SomeTried(unittest.TestCase):
    def test_all_or_none_as_the_words_say(self):
        refused = 0
        for seed in range(40):
            some = seeded(2300 + seed)
            made = some_made(some)
            deeds = some_deeds(some, made, 20)
            house = house_of(made, deeds)
            for time in range(12):
                rows, wrong = (), None
                while len(rows) < some.choice((1, 2, 4)) and wrong is None:
                    rows += (some_deed(some, made, deeds + rows),)
                    wrong = refusal(made, deeds + rows[:-1], rows[-1])
                heard = []
                told = asked(house.tried, rows, tell=lambda it: heard.append(it.its_deeds()))
                self.assertEqual(heard, [deeds + rows[:many + 1] for many in range(len(rows) - (wrong is not None))])
                if wrong:
                    refused += 1
                    self.assertEqual(told, ("refused", wrong.word, wrong.field))
                else:
                    first = len(of_word(deeds, "tell"))
                    self.assertEqual(told, tuple(range(first, first + len(of_word(rows, "tell")))))
                    deeds += rows
                self.assertEqual(house.its_log()[-2:], (("begin", len(rows)), ("end", 0 if wrong else len(rows))))
                self.assertEqual(house.its_deeds(), deeds)
            self.assertEqual(all_asked(house, all_alike), all_asked(house_of(made, deeds), all_alike))
        self.assertTrue(100 < refused < 400, refused)


if __name__ == "__main__":
    unittest.main()
