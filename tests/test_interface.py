"""The interface: each function in its own file, with its arguments by their names."""

import importlib
import inspect
import unittest

FUNCTIONS = {
    "words": {"formed": ["word"], "leaves_of": ["word"], "spells_none": ["word"]},
    "machines": {
        "machine": ["word"], "fits": ["leaf", "letter"], "takes": ["word", "row"],
        "shortest_row": ["word"], "within": ["one", "two"], "parted": ["one", "two"],
    },
    "wordtexts": {"shown": ["word"], "read": ["text"]},
}


class InterfaceTest(unittest.TestCase):
    def test_functions_and_their_arguments(self):
        for file, functions in FUNCTIONS.items():
            module = importlib.import_module("wordways." + file)
            for name, arguments in functions.items():
                with self.subTest(name):
                    function = getattr(module, name)
                    self.assertEqual(function.__module__, module.__name__)
                    parameters = inspect.signature(function).parameters.values()
                    self.assertEqual([one.name for one in parameters], arguments)
                    for one in parameters:
                        self.assertIs(one.kind, one.POSITIONAL_OR_KEYWORD)


if __name__ == "__main__":
    unittest.main()
