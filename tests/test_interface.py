"""The interface's names and arguments, as the document tells them, and the package's files."""

import importlib
import inspect
import os
import unittest

import coverpieces

NAMES = {
    "forms": {
        "is_form": ["found"],
        "formed": ["spots"],
        "touches": ["cell", "other"],
    },
    "turning": {
        "turned": ["form", "t"],
        "then": ["t", "s"],
        "undoing": ["t"],
        "forms_of": ["form", "mode"],
    },
    "floors": {
        "is_floor": ["found"],
        "open_cells": ["floor"],
        "is_open": ["floor", "cell"],
        "must_be": ["floor", "cell"],
        "wanted": ["floor", "cell"],
        "turned_floor": ["floor", "t"],
    },
    "puzzles": {
        "is_kind": ["found"],
        "is_puzzle": ["found"],
    },
    "texts": {
        "read": ["text"],
        "shown": ["puzzle"],
    },
    "placements": {
        "placements": ["puzzle"],
    },
    "judge": {
        "judged": ["puzzle", "laying"],
    },
}


class InterfaceTest(unittest.TestCase):
    def test_names_and_arguments(self):
        for file, defs in NAMES.items():
            module = importlib.import_module("coverpieces." + file)
            for name, arguments in defs.items():
                found = inspect.signature(getattr(module, name))
                self.assertEqual(list(found.parameters), arguments, (file, name))

    def test_package_holds_python_files_alone(self):
        folder = os.path.dirname(coverpieces.__file__)
        for name in os.listdir(folder):
            self.assertTrue(name.endswith(".py") or name == "__pycache__", name)


if __name__ == "__main__":
    unittest.main()
