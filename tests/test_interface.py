"""The interface's names and arguments, as the document tells them, and the package's files."""

import importlib
import inspect
import os
import unittest

import coverpieces
from coverpieces.desk import Desk

NAMES = {
    "forms": {
        "is_form": ["found"],
        "formed": ["spots"],
        "touches": ["cell", "other"],
    },
    "turning": {
        "turned": ["form", "t"],
        "then": ["t", "s"],
        "undoing": ["t"],
        "forms_of": ["form", "mode"],
    },
    "floors": {
        "is_floor": ["found"],
        "open_cells": ["floor"],
        "is_open": ["floor", "cell"],
        "must_be": ["floor", "cell"],
        "wanted": ["floor", "cell"],
        "turned_floor": ["floor", "t"],
    },
    "puzzles": {
        "is_kind": ["found"],
        "is_puzzle": ["found"],
    },
    "texts": {
        "read": ["text"],
        "shown": ["puzzle"],
    },
    "placements": {
        "placements": ["puzzle"],
    },
    "judge": {
        "judged": ["puzzle", "laying"],
    },
    "states": {
        "begin": ["puzzle"],
        "options": ["puzzle", "state"],
        "behind": ["puzzle", "state", "option"],
        "ended": ["state"],
        "ends_well": ["puzzle", "state"],
    },
    "table": {
        "table": ["puzzle"],
        "count": ["puzzle"],
    },
    "numbers": {
        "laying_of": ["puzzle", "number"],
        "number_of": ["puzzle", "laying"],
        "layings": ["puzzle", "start", "many"],
    },
    "cases": {
        "going": ["puzzle", "laid"],
        "right_tree": ["puzzle", "laid", "tree"],
        "cases": ["puzzle"],
    },
    "sums": {
        "show_none": ["puzzle", "p", "weights"],
        "is_mixture": ["puzzle", "p", "mixture"],
        "sums": ["puzzle", "p"],
    },
    "likeness": {
        "keeping": ["puzzle"],
        "turned_laying": ["puzzle", "laying", "t"],
        "first_of": ["puzzle", "laying"],
        "classes": ["puzzle"],
        "kept_by": ["puzzle", "t"],
    },
    "desk": {
        "picture": ["puzzle", "laying"],
        "Desk": [],
    },
}

# What arguments that may be left out stand for.
DEFAULTS = {("numbers", "layings"): {"start": 0, "many": 2}}


class InterfaceTest(unittest.TestCase):
    def test_names_and_arguments(self):
        for file, defs in NAMES.items():
            module = importlib.import_module("coverpieces." + file)
            for name, arguments in defs.items():
                found = inspect.signature(getattr(module, name))
                self.assertEqual(list(found.parameters), arguments, (file, name))
                for word, told in found.parameters.items():
                    default = DEFAULTS.get((file, name), {}).get(word, told.empty)
                    self.assertEqual(told.default, default, (file, name, word))

    def test_desk(self):
        self.assertTrue(inspect.isclass(Desk))
        self.assertEqual(list(inspect.signature(Desk().tell).parameters), ["text"])

    def test_package_holds_python_files_alone(self):
        folder = os.path.dirname(coverpieces.__file__)
        for name in os.listdir(folder):
            self.assertTrue(name.endswith(".py") or name == "__pycache__", name)


if __name__ == "__main__":
    unittest.main()
