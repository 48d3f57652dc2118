import unittest

from tonguehouse import errors

PLAIN = (
    "BadMeasure", "BadName", "BadTongue", "BadFalls", "BadTerms", "BadRights", "BadEdition", "BadGiven", "Full",
    "NoRight", "Own", "Looked", "NotLet", "NothingBack", "Busy", "NoMoment", "NoFit", "Long", "NoPieces",
)
ONE_FIELD = {
    "BadSource": "name", "NoCover": "paper", "Taken": "name", "Faulty": "faults", "Behind": "number", "NoText": "at",
}
LOOKUPS = {"Unknown": "name", "NoEdition": "number", "NoTelling": "number", "NoName": "name"}
HOUSE_ERRORS = PLAIN + tuple(ONE_FIELD) + ("Clash",)
LOOKUP_ERRORS = tuple(LOOKUPS) + ("NoSource",)
FIELDS = ("name", "paper", "faults", "first", "last", "number", "at")
WORTHS = (7, "abc", None, ("none", (3, 1)), [1, {"a": (2,)}], {"k": []})


class Errors(unittest.TestCase):
    def test_house_error_is_a_value_error(self):
        self.assertEqual(errors.HouseError.__bases__, (ValueError,))
        self.assertFalse(issubclass(errors.HouseError, LookupError))

    def test_each_house_error_is_below_house_error_and_no_other(self):
        for word in HOUSE_ERRORS:
            self.assertEqual(getattr(errors, word).__bases__, (errors.HouseError,), word)

    def test_each_lookup_error_is_below_lookup_error_and_no_other(self):
        for word in LOOKUP_ERRORS:
            self.assertEqual(getattr(errors, word).__bases__, (LookupError,), word)
            self.assertFalse(issubclass(getattr(errors, word), ValueError), word)

    def test_all_are_there_and_unlike(self):
        found = [worth for worth in vars(errors).values() if isinstance(worth, type)]
        told = [getattr(errors, word) for word in HOUSE_ERRORS + LOOKUP_ERRORS] + [errors.HouseError]
        self.assertEqual(set(found), set(told))
        self.assertEqual(len(told), 32)
        for worth in told:
            self.assertEqual(worth.__module__, "tonguehouse.errors")

    def test_errors_without_a_field(self):
        for word in PLAIN + ("NoSource", "HouseError"):
            error = getattr(errors, word)()
            self.assertEqual([field for field in FIELDS if hasattr(error, field)], [], word)

    def test_errors_with_one_field(self):
        for word, field in list(ONE_FIELD.items()) + list(LOOKUPS.items()):
            for worth in WORTHS:
                error = getattr(errors, word)(worth)
                self.assertIs(getattr(error, field), worth, word)
                self.assertEqual([other for other in FIELDS if hasattr(error, other)], [field], word)
                self.assertIsInstance(str(error), str)

    def test_clash_has_first_and_last(self):
        error = errors.Clash(2, 5)
        self.assertEqual((error.first, error.last), (2, 5))
        self.assertIsInstance(str(error), str)

    def test_they_are_raised_and_caught_by_name(self):
        with self.assertRaises(errors.HouseError) as caught:
            raise errors.NoCover(("none", (0, 1)))
        self.assertEqual(caught.exception.paper, ("none", (0, 1)))
        with self.assertRaises(LookupError) as caught:
            raise errors.NoTelling([4])
        self.assertEqual(caught.exception.number, [4])


if __name__ == "__main__":
    unittest.main()
