import unittest

from tests.asking import asked, house_of
from tests.making import OWN, TONGUES, few_given, some_deeds, some_made
from tests.oracle import seeded
from tests.test_house_deeds import DATEI, MADE, START, tell
from tonguehouse.errors import Behind, HouseError, NoFit, NoName
from tonguehouse.lists import delta
from tonguehouse.programs import Program

SAY = ("say", "n")
BY = ("by", "n", (("one", ("a file",)), ("other", (SAY, " files"))))
ONE = (("a", "en", None, (BY,)), ("b", "de", 3, (("quote", (SAY,)),)))
OTHER = (("a", "de", 4, (SAY, "x")), ("c", "en", None, ("open",)))
BOTH = {"en": OWN, "de": TONGUES[1]}


class ProgramOf(unittest.TestCase):
    def test_a_program(self):
        program = Program(ONE, BOTH)
        self.assertEqual((program.its_number(), program.its_rows(), len(program)), (0, ONE, 2))
        self.assertEqual(program.show_text("a", {"n": (1, 0)}), "a file")
        self.assertEqual(program.show_text("a", {"n": (1234, 0)}), "1,234 files")
        self.assertEqual(program.show_text("b", {"n": (1234, 0)}), "'1.234i.")
        self.assertEqual(len(Program((), {})), 0)

    def test_deltas(self):
        program = Program(ONE, BOTH)
        self.assertIsNone(program.take_delta(0, delta(ONE, OTHER)))
        self.assertEqual((program.its_number(), program.its_rows(), len(program)), (1, OTHER, 2))
        self.assertEqual(program.show_text("c", {}), "open")
        program.take_delta(1, ((), ()))
        program.take_delta(2, (("a",), ()))
        self.assertEqual((program.its_number(), program.its_rows(), len(program)), (3, OTHER[1:], 1))

    def test_behind_tells_its_own_number(self):
        program = Program(ONE, BOTH)
        for own in range(3):
            for number in (-1, 0, 1, 2, 3, 10 ** 12):
                if number != own:
                    with self.assertRaises(Behind) as caught:
                        program.take_delta(number, (("zz",), ()))
                    self.assertEqual(caught.exception.number, own)
            self.assertEqual(program, twin(own))
            program.take_delta(own, ((), ()))

    def test_a_truth_is_no_number(self):
        program = Program(ONE, BOTH)
        self.assertEqual(asked(program.take_delta, False, ((), ())), ("refused", "Behind", 0))

    def test_no_fit_leaves_all_as_it_was(self):
        program = Program(ONE, BOTH)
        for change in ((("c",), ()), (("a", "c"), OTHER), (("",), ())):
            with self.assertRaises(NoFit):
                program.take_delta(0, change)
            self.assertEqual((program.its_number(), program.its_rows()), (0, ONE))

    def test_no_name(self):
        program = Program(ONE, BOTH)
        for name in ("c", "A", "aa", "", "en"):
            with self.assertRaises(NoName) as caught:
                program.show_text(name, {"n": (1, 0)})
            self.assertEqual(caught.exception.name, name)
            self.assertNotIsInstance(caught.exception, HouseError)
        program.take_delta(0, (("a",), ()))
        self.assertEqual(asked(program.show_text, "a", {}), ("refused", "NoName", "a"))

    def test_given_things_with_others_than_those_that_are_used(self):
        program = Program(ONE + OTHER[1:], BOTH)
        given = {"n": (5, 0), "who": ("ann", "she"), "day": (1, 2, 3), "m": (5, 2)}
        before = repr(given)
        self.assertEqual(program.show_text("a", given), "5 files")
        self.assertEqual(program.show_text("c", given), "open")
        self.assertEqual(repr(given), before)

    def test_the_dict_of_tongues_changed_after_it_was_handed_in(self):
        tongues = dict(BOTH)
        program = Program(ONE, tongues)
        tongues["en"], tongues["de"] = BOTH["de"], BOTH["en"]
        self.assertEqual(program.show_text("b", {"n": (1234, 0)}), "'1.234i.")
        tongues.clear()
        self.assertEqual(program.show_text("a", {"n": (1234, 0)}), "1,234 files")
        self.assertEqual(tongues, {})

    def test_equal_programs(self):
        self.assertTrue(Program(ONE, BOTH) == Program(ONE, BOTH))
        self.assertTrue(Program(ONE, BOTH) == Program(ONE, {"en": OWN, "de": OWN}))
        self.assertFalse(Program(ONE, BOTH) == Program(OTHER, BOTH))
        one, other = Program(ONE, BOTH), Program(OTHER, BOTH)
        one.take_delta(0, delta(ONE, OTHER))
        self.assertFalse(one == other)
        self.assertTrue(one != other)
        other.take_delta(0, ((), ()))
        self.assertTrue(one == other)
        for thing in (None, ONE, (ONE, 0), 0, [], {}, "a", house_of(MADE)):
            self.assertFalse(Program(ONE, BOTH) == thing)
            self.assertFalse(thing == Program(ONE, BOTH))


def twin(many):
    program = Program(ONE, BOTH)
    for number in range(many):
        program.take_delta(number, ((), ()))
    return program


class ShowsWhatTheHouseShows(unittest.TestCase):
    def test_from_moment_to_moment(self):
        house = house_of(MADE, START + (tell(), ("let", "bob", 0)))
        tongues = {row[0]: row[1] for row in house.its_tongues()}
        program = Program(house.list_for(0, "de", at=6), tongues)
        self.assertEqual(program.show_text("a", {"n": (7, 0)}), "the file 7")
        program.take_delta(0, delta(program.its_rows(), house.list_for(0, "de")))
        self.assertEqual(program.its_rows()[0], ("a", "de", 0, DATEI))
        self.assertEqual(program.show_text("a", {"n": (7, 0)}), "datei 7")

    def test_some_houses(self):
        for seed in range(30):
            some = seeded(2850 + seed)
            made = some_made(some)
            deeds = some_deeds(some, made, 45)
            house = house_of(made, deeds)
            tongues = {row[0]: row[1] for row in house.its_tongues()}
            program = Program((), tongues)
            many = 5
            while many <= len(deeds):
                e = some.randrange(len(house.its_editions(at=many)))
                tongue = some.choice(("de", "fr", "fr", "en"))
                rows = house.list_for(e, tongue, at=many)
                program.take_delta(program.its_number(), delta(program.its_rows(), rows))
                self.assertEqual((program.its_rows(), len(program)), (rows, len(rows)))
                for name, blanks, pieces, room in house.its_editions(at=many)[e][0]:
                    given = few_given(some, blanks)
                    self.assertEqual(program.show_text(name, given), house.show_text(e, tongue, name, given, at=many))
                many += some.choice((1, 2, 5))


if __name__ == "__main__":
    unittest.main()
