"""The interface: names, arguments, and where each thing is defined."""

import importlib
import inspect
import unittest

FUNCTIONS = {
    "letters": {"is_letter": "(thing)", "is_own": "(letter)", "reach": "(letter)"},
    "lettertexts": {"show_letter": "(letter)", "read_letter": "(text)"},
    "storetexts": {"read_store": "(text)"},
    "answers": {"answered": "(store, name, first, last)"},
    "carrying": {"carried": "(world, *, beats=1)", "due": "(world)", "beats_due": "(world)"},
    "books": {"parted": "(words, heard)"},
    "traces": {"replayed": "(trace, name, *, make='plain', pause=5, wide=8)"},
    "checker": {"holds": "(claim, paper)"},
    "papers": {
        "paper_trace": "(trace, name, *, make='plain', pause=5, wide=8)", "paper_books": "(words, heard)",
        "paper_filled": "(store, name, first, last)", "paper_awaits": "(store)",
    },
}
CLASSES = {
    "stores": {"Store": {
        "__init__": "(self)", "put": "(self, entry)", "put_all": "(self, entries)", "cut": "(self, many)", "entries": "(self)",
        "round": "(self)", "next_out": "(self)", "next_in": "(self)", "past": "(self)", "waiting": "(self)", "words": "(self)",
        "doubtful": "(self)", "heard": "(self)", "__len__": "(self)", "__eq__": "(self, other)", "__repr__": "(self)",
        "__str__": "(self)",
    }},
    "sides": {"Side": {
        "__init__": "(self, store, name, *, make='plain', pause=5, wide=8)", "tell": "(self, text)",
        "greet": "(self, *, reset=False)", "fall": "(self)", "close": "(self)", "take": "(self, letter)",
        "take_text": "(self, text)", "beat": "(self)", "kept": "(self)", "state": "(self)", "store": "(self)", "seen": "(self)",
        "idle": "(self)", "quiet": "(self)", "heard": "(self)", "unsaid": "(self)", "missing": "(self)", "log": "(self)",
        "trace": "(self)",
    }},
    "worlds": {"World": {
        "__init__": "(self, *, makes=('plain', 'plain'), pause=5, wide=8)", "do": "(self, deed)", "do_all": "(self, deeds)",
        "side": "(self, name)", "under_way": "(self, name)", "words": "(self, name)", "heard": "(self, name)",
        "deeds": "(self)", "__len__": "(self)", "__eq__": "(self, other)",
    }},
    "desk": {"Desk": {"__init__": "(self, *, makes=('plain', 'plain'), pause=5, wide=8)", "say": "(self, row)"}},
}


class Interface(unittest.TestCase):
    def test_functions(self):
        for file, functions in FUNCTIONS.items():
            module = importlib.import_module(f"gapfill.{file}")
            for name, arguments in functions.items():
                function = vars(module)[name]
                self.assertEqual(function.__module__, f"gapfill.{file}")
                self.assertEqual(str(inspect.signature(function)), arguments, name)

    def test_classes(self):
        for file, classes in CLASSES.items():
            module = importlib.import_module(f"gapfill.{file}")
            for name, methods in classes.items():
                found = vars(module)[name]
                self.assertEqual(found.__module__, f"gapfill.{file}")
                for method, arguments in methods.items():
                    self.assertIn(method, vars(found))
                    self.assertEqual(str(inspect.signature(vars(found)[method])), arguments, (name, method))


if __name__ == "__main__":
    unittest.main()
