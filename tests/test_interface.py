"""The names and the arguments that the program is asked by."""

import importlib
import inspect
import unittest

INTERFACE = {
    "shapes": {"is_shape": ["corners"], "sides": ["corners"], "hull": ["points"], "holds": ["corners", "point"],
               "reach": ["corners", "arrow"]},
    "sums": {"together": ["one", "other"], "greater": ["corners", "times"], "taken_off": ["one", "other"]},
    "areas": {"double_area": ["corners"], "mixed": ["one", "other"]},
    "parting": {"steps_of": ["corners"], "parted": ["corners"]},
    "notes": {"shown": ["corners"], "read": ["text"]},
}


class Interface(unittest.TestCase):
    def test_names_and_arguments(self):
        for file, functions in INTERFACE.items():
            module = importlib.import_module("roundsum." + file)
            for name, arguments in functions.items():
                with self.subTest(file=file, name=name):
                    function = getattr(module, name)
                    self.assertEqual(function.__module__, "roundsum." + file)
                    self.assertEqual(list(inspect.signature(function).parameters), arguments)
