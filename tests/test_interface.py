"""The interface: each name stands in its file, with its arguments."""

import importlib
import inspect
import unittest

FUNCTIONS = {
    "names": {"is_name": "thing", "fresh": "name taken"},
    "patterns": {"is_pattern": "thing", "spells": "pattern text", "spells_none": "pattern",
                 "least_spelled": "pattern", "only_text": "pattern"},
    "wordtables": {"word_table": "kinds", "state_of": "table text", "least_row": "table state",
                   "least_apart": "table one other", "least_word": "table kind", "unlike_words": "kinds others",
                   "lost_word": "table kind other name", "beyond": "one other", "word_paper": "kinds"},
    "cutting": {"first_piece": "table text at", "pieces_of": "table text", "cut_words": "kinds text",
                "is_good": "table kind text"},
    "gaps": {"gap_holds": "kinds one gap other", "gap_breaks": "kinds one gap other"},
}
METHODS = {"kinds": "", "rules": "", "begin": "", "bars": "", "labels": "", "labels_of": "name", "row_of": "label",
           "rule_of": "label", "is_kind": "name", "__len__": "", "__eq__": "other", "__repr__": ""}


def parameters(thing):
    return list(inspect.signature(thing).parameters.values())


class Interface(unittest.TestCase):
    def test_functions_stand_in_their_files(self):
        for file, functions in FUNCTIONS.items():
            module = importlib.import_module("tongueyard." + file)
            for name, wanted in functions.items():
                function = getattr(module, name)
                self.assertEqual(function.__module__, "tongueyard." + file, name)
                self.assertEqual([found.name for found in parameters(function)], wanted.split(), name)
                for found in parameters(function):
                    self.assertIs(found.default, inspect.Parameter.empty)

    def test_grammar(self):
        module = importlib.import_module("tongueyard.grammars")
        grammar = module.Grammar
        self.assertEqual(grammar.__module__, "tongueyard.grammars")
        found = parameters(grammar)
        self.assertEqual([one.name for one in found], ["kinds", "rules", "begin", "bars"])
        self.assertEqual([one.kind for one in found[2:]], [inspect.Parameter.KEYWORD_ONLY] * 2)
        self.assertEqual([one.default for one in found[2:]], [None, ()])
        for name, wanted in METHODS.items():
            self.assertIn(name, vars(grammar))
            self.assertEqual([one.name for one in parameters(vars(grammar)[name])], ["self"] + wanted.split())

    def test_values(self):
        self.assertEqual(importlib.import_module("tongueyard.grammars").END, ".")
        self.assertEqual(len(importlib.import_module("tongueyard.patterns").SIGNS), 95)
