"""The interface: names, their files and their arguments."""

import importlib
import inspect
import unittest

CLASSES = {
    "passring.errors": ["RingError", "NoRing", "NoStation", "NoMessage", "IsOff", "IsOn", "NoToken"],
    "passring.stations": ["Station"],
    "passring.tokens": ["Token"],
    "passring.rings": ["Ring"],
}
FUNCTIONS = {
    "passring.rules": {
        "greater": ["one", "other"],
        "next_on": ["on", "at"],
        "limit": ["many", "station"],
        "bound": ["many"],
    },
    "passring.desk": {
        "played": ["text"],
    },
}
METHODS = {
    ("passring.stations", "Station"): {
        "__init__": [],
        "put": ["rank", "mark"],
        "messages": [],
        "need": [],
        "tell": [],
        "send": [],
    },
    ("passring.tokens", "Token"): {
        "__init__": ["number", "maker", "at"],
        "stamp": [],
        "hear": ["need", "station"],
        "begin_round": [],
    },
    ("passring.rings", "Ring"): {
        "__init__": ["many"],
        "put": ["station", "rank", "mark"],
        "step": [],
        "lose": ["place"],
        "make": ["station"],
        "switch_off": ["station"],
        "switch_on": ["station"],
        "time": [],
        "many_on": [],
        "tokens": [],
        "rows": [],
        "messages": ["station"],
        "need": ["station"],
        "knows": ["station"],
        "is_on": ["station"],
    },
}


def arguments(function):
    return list(inspect.signature(function).parameters)


class Interface(unittest.TestCase):

    def test_each_class_is_defined_in_its_file(self):
        for file, names in CLASSES.items():
            for name in names:
                with self.subTest(file=file, name=name):
                    found = getattr(importlib.import_module(file), name)
                    self.assertTrue(inspect.isclass(found))
                    self.assertEqual(found.__module__, file)

    def test_each_function_is_defined_in_its_file_with_its_arguments(self):
        for file, functions in FUNCTIONS.items():
            for name, expected in functions.items():
                with self.subTest(file=file, name=name):
                    found = getattr(importlib.import_module(file), name)
                    self.assertTrue(inspect.isfunction(found))
                    self.assertEqual(found.__module__, file)
                    self.assertEqual(arguments(found), expected)

    def test_each_method_is_defined_in_its_class_with_its_arguments(self):
        for (file, owner), methods in METHODS.items():
            for name, expected in methods.items():
                with self.subTest(owner=owner, name=name):
                    found = vars(getattr(importlib.import_module(file), owner))[name]
                    self.assertEqual(arguments(found), ["self"] + expected)


if __name__ == "__main__":
    unittest.main()
