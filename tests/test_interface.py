"""The names and arguments that the document's interface lists."""

import importlib
import inspect
import unittest

FUNCTIONS = {
    "counts": {"is_forms": "thing", "forms_of": "forms count"},
    "covers": {"cover": "forms", "cover_holds": "forms thing", "last_with": "forms word low high d"},
    "manners": {"is_manner": "thing", "said_count": "manner count", "said_day": "manner day"},
    "measures": {"is_measure": "thing", "width": "measure text", "laid": "measure wide text", "fits": "measure room text"},
    "blanks": {"are_blanks": "thing", "are_given": "blanks thing"},
    "pieces": {"are_pieces": "blanks thing", "lacks": "forms blanks pieces", "used": "pieces"},
    "sayings": {"said": "tongue pieces given", "said_ways": "tongue pieces given"},
    "rooms": {"widest": "measure tongue blanks pieces", "rows_of": "measure tongue blanks pieces wide",
              "in_room": "measure tongue blanks pieces room"},
    "editions": {"is_edition": "thing", "like": "one other", "line_of": "editions e name", "in_line": "editions line",
                 "news": "editions e"},
    "faults": {"are_terms": "thing", "faults": "measure tongue terms source pieces",
               "is_fault": "measure tongue terms source pieces thing"},
    "meets": {"met": "base one other"},
    "whys": {"is_why": "made deeds e tongue name given thing"},
    "lists": {"delta": "one other", "led": "rows delta"},
    "words": {"written": "pieces", "read": "blanks text"},
}
# What stands behind a bare star stands behind it here too.
METHODS = {
    ("houses", "House"): {
        "__init__": "measure name tongue edition", "new_tongue": "name tongue falls terms", "new_rights": "name rights",
        "new_edition": "edition", "tell_text": "hand tongue e name pieces * base=None", "let_text": "hand number",
        "send_back": "hand number", "call_back": "hand number", "back": "", "tried": "deeds * tell=None", "its_deeds": "",
        "__len__": "", "__eq__": "other", "__str__": "", "its_log": "", "its_editions": "* at=None", "its_tongues": "* at=None",
        "its_rights": "name * at=None", "its_telling": "number * at=None", "show_text": "e tongue name given * at=None",
        "found_for": "e tongue name * at=None", "why_shown": "e tongue name given * at=None", "list_for": "e tongue * at=None",
    },
    ("programs", "Program"): {
        "__init__": "rows tongues", "its_number": "", "take_delta": "number delta", "its_rows": "", "show_text": "name given",
        "__len__": "", "__eq__": "other",
    },
}


class Interface(unittest.TestCase):
    def test_functions_and_their_arguments(self):
        for home, functions in FUNCTIONS.items():
            module = importlib.import_module("tonguehouse." + home)
            for name, arguments in functions.items():
                function = getattr(module, name)
                self.assertEqual(function.__module__, module.__name__)
                self.assertEqual(" ".join(inspect.signature(function).parameters), arguments, name)

    def test_methods_stand_in_the_class_itself(self):
        for (home, name), methods in METHODS.items():
            own = vars(getattr(importlib.import_module("tonguehouse." + home), name))
            for method, arguments in methods.items():
                told = str(inspect.signature(own[method])).strip("()").replace(",", "")
                self.assertEqual(told, ("self " + arguments).strip(), method)

    def test_constants(self):
        houses = importlib.import_module("tonguehouse.houses")
        self.assertEqual((houses.DEEDS, houses.LINES), (120, 8))


if __name__ == "__main__":
    unittest.main()
