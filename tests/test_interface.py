"""The names and arguments that the document's interface lists."""

import importlib
import inspect
import unittest

FUNCTIONS = {
    "counts": {"is_forms": "thing", "forms_of": "forms count"},
    "covers": {"cover": "forms", "cover_holds": "forms thing", "last_with": "forms word low high d"},
    "manners": {"is_manner": "thing", "said_count": "manner count", "said_day": "manner day"},
    "measures": {"is_measure": "thing", "width": "measure text", "laid": "measure wide text", "fits": "measure room text"},
    "blanks": {"are_blanks": "thing", "are_given": "blanks thing"},
    "pieces": {"are_pieces": "blanks thing", "lacks": "forms blanks pieces", "used": "pieces"},
    "sayings": {"said": "tongue pieces given", "said_ways": "tongue pieces given"},
    "rooms": {"widest": "measure tongue blanks pieces", "rows_of": "measure tongue blanks pieces wide",
              "in_room": "measure tongue blanks pieces room"},
    "editions": {"is_edition": "thing", "like": "one other", "line_of": "editions e name", "in_line": "editions line",
                 "news": "editions e"},
    "faults": {"are_terms": "thing", "faults": "measure tongue terms source pieces",
               "is_fault": "measure tongue terms source pieces thing"},
    "meets": {"met": "base one other"},
    "whys": {"is_why": "made deeds e tongue name given thing"},
}


class Interface(unittest.TestCase):
    def test_functions_and_their_arguments(self):
        for home, functions in FUNCTIONS.items():
            module = importlib.import_module("tonguehouse." + home)
            for name, arguments in functions.items():
                function = getattr(module, name)
                self.assertEqual(function.__module__, module.__name__)
                self.assertEqual(" ".join(inspect.signature(function).parameters), arguments, name)


if __name__ == "__main__":
    unittest.main()
