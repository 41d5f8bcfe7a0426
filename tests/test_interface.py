"""The interface: each function and class in its own file, with its arguments by their names."""

import importlib
import inspect
import unittest

# A text tells an argument without a default, a tuple one with it; those behind
# the star are told by their names alone.
ENDS = ["start", "goal"]
FUNCTIONS = {
    "words": {"formed": ["word"], "leaves_of": ["word"], "spells_none": ["word"]},
    "machines": {
        "machine": ["word"], "fits": ["leaf", "letter"], "takes": ["word", "row"],
        "shortest_row": ["word"], "within": ["one", "two"], "parted": ["one", "two"],
    },
    "wordtexts": {"shown": ["word"], "read": ["text"]},
    "ways": {
        "spelled": ["web", "steps"], "way_fault": ["web", "word", "steps", "*", *ENDS],
        "cut_fault": ["web", "word", "pairs", "*", *ENDS], "any_way": ["web", "word", "*", *ENDS],
        "shortest_way": ["web", "word", "*", *ENDS], "levels": ["web", "word", "*", ("start", 0)],
        "reached": ["web", "word", "*", ("start", 0)], "answers": ["web", "word"],
    },
    "trails": {"trail": ["web", "word", "*", *ENDS], "bare_way": ["web", "word", "*", *ENDS]},
    "counts": {
        "count_ways": ["web", "word", "*", *ENDS, ("length", 40)],
        "way_at": ["web", "word", "number", "*", *ENDS, ("length", 40)],
        "number_of": ["web", "word", "steps", "*", *ENDS], "count_all": ["web", "word", "*", *ENDS],
    },
    "texts": {"web_text": ["web"], "read_web": ["text"], "read_whole": ["text"]},
    "replies": {"reply": ["web", "question"]},
}
MOSTS = ["self", "*", ("most_places", 60), ("most_ties", 200)]
DEEDS = {"place": ["self"], "tie": ["self", "start", "name", "goal"], "cut": ["self", "tie"], "drop": ["self", "place"]}
LISTS = {"places": ["self"], "ties": ["self"]}
WEB = {
    **DEEDS, **LISTS, "ends_of": ["self", "tie"], "ties_at": ["self", "place"], "mark": ["self"], "undo": ["self", "mark"],
}
METHODS = {
    ("webs", "Web"): {**WEB, "__init__": MOSTS, "__len__": ["self"]},
    ("hubs", "Hubs"): {
        **DEEDS, **LISTS, "__init__": ["self"], "out_hubs": ["self", "place"], "in_hubs": ["self", "place"],
        "reaches": ["self", *ENDS], "why": ["self", *ENDS],
    },
    ("store", "Store"): {
        **WEB, "__init__": MOSTS, "do_all": ["self", "deeds"], "log": ["self"], "keep": ["self", "word"],
        "let_go": ["self", "ask"], "answers_of": ["self", "ask"], "news": ["self", "ask"], "asks": ["self"],
        "ask": ["self", "kind", "word", "*", *ENDS],
    },
}
CONSTANTS = {"webs": {"MOST_PLACES": 60, "MOST_TIES": 200}, "counts": {"MOST_STEPS": 40}}


def arguments_of(function):
    """The arguments of a function, told as above."""
    told = []
    for one in inspect.signature(function).parameters.values():
        if one.kind is one.KEYWORD_ONLY and "*" not in told:
            told.append("*")
        assert one.kind in (one.KEYWORD_ONLY, one.POSITIONAL_OR_KEYWORD)
        told.append(one.name if one.default is one.empty else (one.name, one.default))
    return told


class InterfaceTest(unittest.TestCase):
    def test_functions_and_their_arguments(self):
        for file, functions in FUNCTIONS.items():
            module = importlib.import_module("wordways." + file)
            for name, arguments in functions.items():
                with self.subTest(name):
                    function = getattr(module, name)
                    self.assertEqual(function.__module__, module.__name__)
                    self.assertEqual(arguments_of(function), arguments)

    def test_classes_and_their_own_methods(self):
        for (file, name), methods in METHODS.items():
            made = getattr(importlib.import_module("wordways." + file), name)
            self.assertEqual(made.__module__, "wordways." + file)
            for method, arguments in methods.items():
                with self.subTest(method):
                    self.assertEqual(arguments_of(vars(made)[method]), arguments)

    def test_constants(self):
        for file, constants in CONSTANTS.items():
            module = importlib.import_module("wordways." + file)
            for name, worth in constants.items():
                self.assertEqual(getattr(module, name), worth)


if __name__ == "__main__":
    unittest.main()
