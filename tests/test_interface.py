"""The interface: each name stands in its file, with its arguments."""

import importlib
import inspect
import unittest

FUNCTIONS = {
    "names": {"is_name": "thing", "fresh": "name taken"},
    "patterns": {"is_pattern": "thing", "spells": "pattern text", "spells_none": "pattern",
                 "least_spelled": "pattern", "only_text": "pattern"},
    "wordtables": {"word_table": "kinds", "state_of": "table text", "least_row": "table state",
                   "least_apart": "table one other", "least_word": "table kind", "unlike_words": "kinds others",
                   "lost_word": "table kind other name", "beyond": "one other", "word_paper": "kinds"},
    "cutting": {"first_piece": "table text at", "pieces_of": "table text", "cut_words": "kinds text",
                "is_good": "table kind text"},
    "gaps": {"gap_holds": "kinds one gap other", "gap_breaks": "kinds one gap other"},
    "trees": {"is_shape": "grammar shape row *name", "is_tree": "grammar thing *name", "need_tree": "grammar thing *name",
              "spelled_by": "grammar shape *name", "nodes_of": "grammar shape *name", "parts_of": "grammar shape *name",
              "part_at": "grammar tree node", "put_at": "grammar tree node other", "flat": "top nodes",
              "numbered": "grammar tree"},
    "known": {name: "grammar" for name in ("least", "stands", "begins", "follows", "can_be_empty", "ring", "known_paper")},
    "bars": {"parted": "grammar"},
    "gtexts": {"show_grammar": "grammar", "show_pattern": "pattern", "read_grammar": "text", "read_pattern": "text"},
    "sorts": {"is_worth": "sort thing"},
    "tallies": {"due_sums": "grammar marks", "is_tally": "grammar thing", "tally_of": "grammar marks sums",
                "completed": "grammar marks sums", "parted_tally": "grammar tally"},
    "logs": {"log_of": "grammar shape", "shape_of_log": "grammar log"},
    "judge_words": {"word_fault": "kinds table pairs", "words_hold": "grammar paper"},
}
METHODS = {"kinds": "", "rules": "", "begin": "", "bars": "", "labels": "", "labels_of": "name", "row_of": "label",
           "rule_of": "label", "is_kind": "name", "__len__": "", "__eq__": "other", "__repr__": ""}


def parameters(thing):
    return list(inspect.signature(thing).parameters.values())


class Interface(unittest.TestCase):
    def test_functions_stand_in_their_files(self):
        for file, functions in FUNCTIONS.items():
            module = importlib.import_module("tongueyard." + file)
            for name, wanted in functions.items():
                function = getattr(module, name)
                self.assertEqual(function.__module__, "tongueyard." + file, name)
                self.assertEqual([found.name for found in parameters(function)], wanted.replace("*", "").split(), name)
                for found, told in zip(parameters(function), wanted.split()):
                    by_name = told.startswith("*")
                    self.assertIs(found.default, None if by_name else inspect.Parameter.empty)
                    self.assertEqual(found.kind == inspect.Parameter.KEYWORD_ONLY, by_name)

    def test_grammar(self):
        module = importlib.import_module("tongueyard.grammars")
        grammar = module.Grammar
        self.assertEqual(grammar.__module__, "tongueyard.grammars")
        found = parameters(grammar)
        self.assertEqual([one.name for one in found], ["kinds", "rules", "begin", "bars"])
        self.assertEqual([one.kind for one in found[2:]], [inspect.Parameter.KEYWORD_ONLY] * 2)
        self.assertEqual([one.default for one in found[2:]], [None, ()])
        for name, wanted in METHODS.items():
            self.assertIn(name, vars(grammar))
            self.assertEqual([one.name for one in parameters(vars(grammar)[name])], ["self"] + wanted.split())

    def test_parted(self):
        module = importlib.import_module("tongueyard.bars")
        self.assertEqual(module.Parted.__module__, "tongueyard.bars")
        for name, wanted in {"plain": [], "led_in": ["shape"], "led_out": ["shape"], "old_label": ["label"]}.items():
            self.assertEqual([one.name for one in parameters(vars(module.Parted)[name])], ["self"] + wanted)

    def test_values(self):
        self.assertEqual(importlib.import_module("tongueyard.grammars").END, ".")
        self.assertEqual(len(importlib.import_module("tongueyard.patterns").SIGNS), 95)
        sorts = importlib.import_module("tongueyard.sorts")
        self.assertEqual((sorts.MOST, sorts.LONG, sorts.MEMBERS), (1000000000, 60, 40))
        self.assertIs(type(importlib.import_module("tongueyard.gtexts").META), str)
