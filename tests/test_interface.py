"""The interface that has landed: each name, in its file, with its arguments under their names."""

import importlib
import inspect
import unittest

FUNCTIONS = {
    "kinds": [
        "is_whole(thing, low, high)", "is_name(thing)", "is_kind(thing)", "is_clock(thing)", "is_worth(thing, kind)",
        "bits_of(width, worth)", "of_bits(bits)", "reckoned(word, width, worths, *, to=1, at=0)",
    ],
    "terms": [
        "is_term(thing)", "is_right(thing)", "size_of(right)", "parts_of(right)", "names_in(right)", "lasts_in(right)",
        "firsts_in(right)", "renamed(right, names, *, nodes=None)", "is_node(thing)", "lets_of(node)", "blocks_of(node)",
        "flows_of(node)",
    ],
}


class Interface(unittest.TestCase):
    def test_functions_stand_in_their_files_with_their_arguments(self):
        for file, functions in FUNCTIONS.items():
            module = importlib.import_module("beatflows." + file)
            for awaited in functions:
                function = getattr(module, awaited.partition("(")[0])
                self.assertEqual(function.__module__, module.__name__)
                self.assertEqual(function.__name__ + str(inspect.signature(function)), awaited)


if __name__ == "__main__":
    unittest.main()
