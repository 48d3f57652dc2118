import itertools
import unittest

from tests.asking import all_places, asked, house_of
from tests.making import some_deeds, some_made
from tests.oracle import seeded
from tests.oracle_house import plain_asked, plain_editions, plain_list_row, plain_tongues, refuse_asked
from tests.test_house_deeds import DATEI, MADE, PLAIN, SOURCE, START, tell
from tonguehouse.errors import NoFit
from tonguehouse.lists import delta, led

ROWS = (("a", "de", 0, ("x",)), ("a", "en", None, ("x",)), ("a", "de", 1, ("y",)), ("b", "de", 0, ("x",)), ("b", "en", None, ()),
        ("c", "fr", 2, (("say", "n"),)))


def some_list(some):
    rows = {name: [row for row in ROWS if row[0] == name] for name in "abc"}
    return tuple([some.choice(rows[name]) for name in "abc" if some.random() < 0.6])


def all_lists():
    rows = [[None] + [row for row in ROWS if row[0] == name] for name in "abc"]
    return [tuple([row for row in each if row]) for each in itertools.product(*rows)]


class Delta(unittest.TestCase):
    def leads(self, one, other, gone, come):
        before = repr((one, other))
        told = delta(one, other)
        self.assertEqual(told, (gone, come))
        self.assertEqual([type(part) for part in (told,) + told], [tuple] * 3)
        self.assertEqual(led(one, told), other)
        self.assertEqual(repr((one, other)), before)

    def test_nothing_changes(self):
        self.leads((), (), (), ())
        self.leads(ROWS[:1], ROWS[:1], (), ())
        self.leads((ROWS[0], ROWS[3], ROWS[5]), (ROWS[0], ROWS[3], ROWS[5]), (), ())

    def test_names_go_and_rows_come(self):
        self.leads((ROWS[0], ROWS[3]), (), ("a", "b"), ())
        self.leads((), (ROWS[0], ROWS[3]), (), (ROWS[0], ROWS[3]))
        self.leads((ROWS[0],), (ROWS[3],), ("a",), (ROWS[3],))
        self.leads((ROWS[0], ROWS[3], ROWS[5]), (ROWS[3],), ("a", "c"), ())
        self.leads((ROWS[3],), (ROWS[0], ROWS[3], ROWS[5]), (), (ROWS[0], ROWS[5]))

    def test_a_row_changes_in_any_part(self):
        row = ("a", "de", 0, ("x",))
        for other in (("a", "fr", 0, ("x",)), ("a", "de", 1, ("x",)), ("a", "de", None, ("x",)), ("a", "de", 0, ("y",)), ("a", "de", 0, ())):
            self.leads((row, ROWS[3]), (other, ROWS[3]), (), (other,))

    def test_all_lists_of_few_rows(self):
        for one, other in itertools.product(all_lists(), repeat=2):
            told = delta(one, other)
            self.assertEqual(led(one, told), other)
            names = {row[0] for row in one} - {row[0] for row in other}
            self.assertEqual(told, (tuple(sorted(names)), tuple([row for row in other if row not in one])))

    def test_no_delta_with_fewer_names_and_rows_leads_so(self):
        some = seeded(271)
        for time in range(150):
            one, other = some_list(some), some_list(some)
            gone, come = delta(one, other)
            for names, rows in itertools.product(parts_of([row[0] for row in one]), parts_of(ROWS)):
                if len(names) + len(rows) < len(gone) + len(come) and len({row[0] for row in rows}) == len(rows):
                    self.assertNotEqual(led(one, (names, rows)), other)


def parts_of(things):
    return [part for many in range(4) for part in itertools.combinations(things, many)]


class Led(unittest.TestCase):
    def test_no_fit(self):
        one = (ROWS[0], ROWS[3])
        for gone in (("c",), ("a", "c"), ("aa",), ("a", "b", "c"), ("A",)):
            for come in ((), (ROWS[5],)):
                before = repr((one, gone, come))
                with self.assertRaises(NoFit):
                    led(one, (gone, come))
                self.assertEqual(repr((one, gone, come)), before)
        with self.assertRaises(NoFit):
            led((), (("a",), ()))

    def test_any_delta(self):
        one = (ROWS[0], ROWS[3])
        self.assertEqual(led(one, ((), ())), one)
        self.assertEqual(led(one, (("a",), ())), (ROWS[3],))
        self.assertEqual(led(one, ((), (ROWS[0],))), one)
        self.assertEqual(led(one, ((), (ROWS[2], ROWS[5]))), (ROWS[2], ROWS[3], ROWS[5]))
        self.assertEqual(led(one, (("a",), (ROWS[2],))), (ROWS[2], ROWS[3]))
        self.assertEqual(led(one, (("a", "b"), (ROWS[5],))), (ROWS[5],))
        self.assertIs(type(led(one, ((), ()))), tuple)

    def test_rising_by_name(self):
        rows = tuple([(name, "en", None, ()) for name in ("a", "ab", "b", "ba", "c")])
        for many in range(6):
            for part in itertools.combinations(rows, many):
                rest = tuple([row for row in rows if row not in part])
                self.assertEqual(led(part, ((), rest)), rows)


class ListFor(unittest.TestCase):
    def test_what_is_found_for_each_source(self):
        house = house_of(MADE, START + (tell(), ("let", "bob", 0), tell(("f",), "fr", name="b"), ("let", "bob", 1)))
        self.assertEqual(house.list_for(0, "en"), (("a", "en", None, SOURCE[2]), ("b", "en", None, PLAIN[2])))
        self.assertEqual(house.list_for(0, "de"), (("a", "de", 0, DATEI), ("b", "en", None, PLAIN[2])))
        self.assertEqual(house.list_for(0, "fr"), (("a", "de", 0, DATEI), ("b", "fr", 1, ("f",))))
        self.assertEqual(house.list_for(0, "fr", at=7), (("a", "de", 0, DATEI), ("b", "en", None, PLAIN[2])))

    def test_refusals_in_their_order(self):
        house = house_of(MADE, START)
        self.assertEqual(asked(house.list_for, 1, "zz", at=6), ("refused", "NoMoment", None))
        self.assertEqual(asked(house.list_for, 1, "zz"), ("refused", "NoEdition", 1))
        self.assertEqual(asked(house.list_for, 0, "zz"), ("refused", "Unknown", "zz"))
        self.assertEqual(asked(house.list_for, 0, "de", at=0), ("refused", "Unknown", "de"))
        for e, tongue in itertools.product((None, True, "0", [0], -1), (None, ["de"], "de", {})):
            told = asked(house.list_for, e, tongue)
            self.assertEqual(repr(told), repr(plain_asked(refuse_asked, MADE, START, e, tongue)))

    def test_some_houses_as_the_words_say(self):
        for seed in range(25):
            some = seeded(2750 + seed)
            made = some_made(some)
            deeds = some_deeds(some, made, 40)
            house = house_of(made, deeds)
            for many in some.sample(range(len(deeds) + 1), 4):
                for e, tongue in {(e, tongue) for e, tongue, source in all_places(made, deeds[:many])}:
                    told = house.list_for(e, tongue, at=many)
                    sources = plain_editions(made, deeds[:many])[e][0]
                    self.assertEqual(told, tuple([plain_list_row(made, deeds[:many], e, tongue, source[0]) for source in sources]))

    def test_deltas_lead_from_list_to_list(self):
        for seed in range(25):
            some = seeded(2780 + seed)
            made = some_made(some)
            deeds = some_deeds(some, made, 40)
            house = house_of(made, deeds)
            tongues = [row[0] for row in plain_tongues(made, deeds[:2])]
            old = ()
            for many in range(2, len(deeds) + 1):
                e = some.randrange(len(house.its_editions(at=many)))
                new = house.list_for(e, some.choice(tongues), at=many)
                self.assertEqual(led(old, delta(old, new)), new)
                old = new


if __name__ == "__main__":
    unittest.main()
