"""The interface: each name stands in its own file, with the parameters that are listed."""

import ast
import unittest
from pathlib import Path

PACKAGE = Path(__file__).resolve().parent.parent / "bondwords"

ERRORS = {
    "BondError": None, "BadBonds": "place", "BadWord": "place", "BadRow": "value", "BadDeed": "place",
    "BadNumber": "value", "Unlike": None, "TooGreat": "most", "BadChoice": "value", "BadText": "place",
    "NothingLeft": None, "Endless": None,
}
METHODS = {
    "bonds": {"Bonds": {
        "__init__": ["self", "rows"], "__len__": ["self"], "__eq__": ["self", "other"],
        "bond": ["self", "one", "other"], "weight": ["self", "one", "other"],
    }},
    "errors": {name: {"__init__": ["self", field]} if field else {} for name, field in ERRORS.items()},
    "bench": {"Bench": {
        "__init__": ["self", "bonds", "word"], "__len__": ["self"], "__eq__": ["self", "other"], "word": ["self"],
        "deeds": ["self"], "do": ["self", "deed"], "do_all": ["self", "deeds"], "undo": ["self"], "redo": ["self"],
        "needless": ["self"], "trial": ["self"],
    }},
}
FUNCTIONS = {
    "rows": {
        "press": ["bonds", "row", "letter"], "row_of": ["bonds", "word"], "word_of": ["bonds", "row"],
        "length": ["bonds", "word"], "alike": ["bonds", "one", "other"], "firsts": ["bonds", "word"],
        "lasts": ["bonds", "word"],
    },
    "deeds": {
        "can": ["bonds", "word", "deed"], "done": ["bonds", "word", "deed"], "walked": ["bonds", "word", "deeds"],
        "deeds_of": ["bonds", "word"], "back": ["bonds", "word", "deed"], "returned": ["bonds", "word", "deeds"],
    },
    "shortest": {
        "is_shortest": ["bonds", "word"], "least_word": ["bonds", "word"], "to_shortest": ["bonds", "word"],
        "turns_between": ["bonds", "one", "other"],
    },
    "papers": {"paper": ["bonds", "one", "other"], "is_paper": ["bonds", "one", "other", "value"]},
    "lists": {
        "count_shortest": ["bonds", "word"], "shortest_words": ["bonds", "word"],
        "word_at": ["bonds", "word", "number"], "word_number": ["bonds", "word"],
    },
    "under": {
        "is_below": ["bonds", "one", "other"], "is_just_below": ["bonds", "one", "other"],
        "kept": ["bonds", "one", "other"], "words_below": ["bonds", "word"], "count_below": ["bonds", "word"],
        "just_below": ["bonds", "word"],
    },
    "choices": {
        "is_choice": ["bonds", "value"], "choices_of": ["bonds"], "is_ahead": ["bonds", "word", "choice"],
        "is_behind": ["bonds", "word", "choice"], "is_within": ["bonds", "word", "choice"],
        "parted": ["bonds", "word", "choice"], "parted_ahead": ["bonds", "word", "choice"],
        "least_between": ["bonds", "left", "word", "right"],
    },
    "finite": {
        "is_finite": ["bonds"], "witness": ["bonds"], "is_witness": ["bonds", "value"], "longest": ["bonds"],
        "hangs_together": ["bonds", "choice"], "pieces": ["bonds"],
    },
    "counts": {
        "count_of": ["bonds", "many"], "counts": ["bonds", "many"], "size": ["bonds"], "words_of": ["bonds", "many"],
    },
    "texts": {
        "bonds_text": ["bonds"], "word_text": ["word"], "read_bonds": ["text"], "read_word": ["text"],
    },
    "bench": {"tried": ["bench", "function"]},
}
CONSTANTS = {"bonds": {"MOST_LETTERS": 6, "MOST_WORD": 60}, "shortest": {"MOST_LED": 16}}


def tree_of(name):
    return ast.parse((PACKAGE / f"{name}.py").read_text())


def parameters(body):
    """The parameters of each function that a body defines."""
    return {node.name: [arg.arg for arg in node.args.args] for node in body if isinstance(node, ast.FunctionDef)}


class InterfaceTest(unittest.TestCase):

    def test_functions(self):
        for name, functions in FUNCTIONS.items():
            found = parameters(tree_of(name).body)
            for function, names in functions.items():
                with self.subTest(name, function=function):
                    self.assertEqual(found.get(function), names)

    def test_constants(self):
        for name, constants in CONSTANTS.items():
            found = [node for node in tree_of(name).body if isinstance(node, ast.Assign)]
            told = {node.targets[0].id: ast.literal_eval(node.value) for node in found}
            self.assertEqual({constant: told.get(constant) for constant in constants}, constants)

    def test_classes_and_methods(self):
        for name, classes in METHODS.items():
            found = {node.name: node for node in tree_of(name).body if isinstance(node, ast.ClassDef)}
            for kind, methods in classes.items():
                with self.subTest(name, kind=kind):
                    self.assertIn(kind, found)
                    told = parameters(found[kind].body)
                    self.assertEqual({method: told.get(method) for method in methods}, methods)


if __name__ == "__main__":
    unittest.main()
