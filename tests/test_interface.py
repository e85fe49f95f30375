"""The interface: each name stands in its file, with its arguments."""

import importlib
import inspect
import re
import unittest

FUNCTIONS = {
    "names": {"is_name": "thing", "fresh": "name taken"},
    "patterns": {"is_pattern": "thing", "spells": "pattern text", "spells_none": "pattern",
                 "least_spelled": "pattern", "only_text": "pattern"},
    "wordtables": {"word_table": "kinds", "state_of": "table text", "least_row": "table state",
                   "least_apart": "table one other", "least_word": "table kind", "unlike_words": "kinds others",
                   "lost_word": "table kind other name", "beyond": "one other", "word_paper": "kinds"},
    "cutting": {"first_piece": "table text at", "pieces_of": "table text", "cut_words": "kinds text",
                "is_good": "table kind text"},
    "gaps": {"gap_holds": "kinds one gap other", "gap_breaks": "kinds one gap other"},
    "trees": {"is_shape": "grammar shape row *name", "is_tree": "grammar thing *name",
              "need_tree": "grammar thing *name",
              "spelled_by": "grammar shape *name", "nodes_of": "grammar shape *name", "parts_of": "grammar shape *name",
              "part_at": "grammar tree node", "put_at": "grammar tree node other", "flat": "top nodes",
              "numbered": "grammar tree"},
    "known": {name: "grammar" for name in ("least", "stands", "begins", "follows", "can_be_empty", "ring",
                                           "known_paper")},
    "bars": {"parted": "grammar"},
    "gtexts": {"show_grammar": "grammar", "show_pattern": "pattern", "read_grammar": "text", "read_pattern": "text"},
    "sorts": {"is_worth": "sort thing"},
    "tallies": {"due_sums": "grammar marks", "is_tally": "grammar thing", "tally_of": "grammar marks sums",
                "completed": "grammar marks sums", "parted_tally": "grammar tally"},
    "logs": {"log_of": "grammar shape", "shape_of_log": "grammar log"},
    "judge_words": {"word_fault": "kinds table pairs", "words_hold": "grammar paper"},
    "judge": {"lets_by": "grammar paper"},
    "judge_mends": {"mends_hold": "grammar paper"},
    "judge_worths": {"worths_hold": "grammar paper"},
    "judge_known": {"known_holds": "grammar paper"},
    "judge_bridges": {"led_holds": "grammar paper"},
    "reading": {"nth_shape": "grammar row number", "place_of_shape": "grammar row shape", "only_shape": "grammar row",
                "reading_paper": "grammar row", "dead_paper": "grammar row"},
    "goingon": {"going_on": "grammar row"},
    "states": {"begins_of": "grammar symbols ahead"},
    "machine": {"run_kinds": "table kinds"},
    "carry": {"table_text": "table", "read_table": "text"},
    "mends": {"mended": "row deeds", "fewest": "grammar row", "mend": "grammar row", "mend_paper": "grammar row"},
    "mendtables": {"lows": "grammar row", "nofewer_paper": "grammar row"},
}
# Functions with an argument by its name that has a default of its own: (file, function, arguments, name, default).
NAMED_ONES = [("twice", "twice", ["grammar"], "most", 4), ("states", "split_states", ["grammar"], "limit", 120),
              ("states", "merged_states", ["grammar"], "limit", 120), ("tables", "table_of", ["grammar"], "limit", 120),
              ("tables", "why_ahead", ["grammar", "state", "label", "kind"], "limit", 120)]
CLASSES = {("charts", "Chart", "grammar row"): {"facts": "", "reads": "", "bad": "", "next_kinds": "at", "how_many": "",
                                                "__eq__": "other", "__len__": "", "__repr__": ""},
           ("machine", "Machine", "table"): {"feed": "kind", "may": "", "stand": "", "log": "", "taken": "",
                                             "whole": "", "back": "many",
                                             "twin": "", "__eq__": "other", "__len__": "", "__repr__": ""}}
METHODS = {"kinds": "", "rules": "", "begin": "", "bars": "", "labels": "", "labels_of": "name", "row_of": "label",
           "rule_of": "label", "is_kind": "name", "__len__": "", "__eq__": "other", "__repr__": ""}

# Functions and classes of the later stages: each name with its arguments as Python tells them.
SIGNED = {
    "layouts": "Layout(grammar, marks)",
    "printing": "printed(layout, tree, *, width=None) packed(grammar, tree) printed_spans(layout, tree, *, width=None)",
    "worths": "worths(grammar, tally, tree, *, given=()) why(grammar, tally, tree, node, attribute, *, given=())"
              " hangs_on(grammar, tally, tree, node, attribute, *, given=())",
    "rounds": "relations(grammar, tally, *, limit=300) round_paper(grammar, tally, *, limit=300)"
              " shape_of_rows(rows, *, number=None, limit=120) one_walk(grammar, tally)",
    "ledger": "Ledger(grammar, tally, *, given=())",
    "readers": "Reader(grammar)",
    "documents": "Document(reader, text='', *, limit=200)",
    "bridges": "Step(old, new, names, templates) Bridge(steps=()) step_fault(step) led(bridge, tree, *, keep=False)"
               " led_paper(step, tree) turned(bridge)",
    "hinders": "hindered(step) found_step(old, new)",
    "deeds": "done(grammar, deed) turn(grammar, deeds)",
    "ledtallies": "led_tally(step, tally)",
    "bench": "Bench()",
    "treetexts": "show_tree(tree, parts) read_tree(grammar, text, *, name=None)",
    "tallytexts": "show_tally(tally) sums_read(text) read_tally(grammar, text, *, fill=False)",
    "orders": "show_deed(deed, *, parts=None) read_deed(text)",
    "desk": "Desk() desk_of(rows) desk_from(text)",
}
SIGNED_METHODS = {
    ("layouts", "Layout"): "marks_of(label) __eq__(other)",
    ("ledger",
     "Ledger"): "laid(numbered) relaid(grammar, tally, numbered, *, given=()) worths_now() worth_of(node, attribute)"
                          " __eq__(other) __len__() __repr__()",
    ("readers", "Reader"): "grammar_read() has_table()",
    ("documents",
     "Document"): "text_now() words_now() tree_now() many_now() nodes_now() stop_now() edit(at, *, gone=0, put='')"
                               " edits(rows) undo() redo() cut_again(at, *, gone=0, put='') change_now() span_of(number)"
                               " home_of(number) over(place) is_busy() entries() __eq__(other) __len__() __repr__()",
    ("bridges",
     "Step"): "old() new() names() templates() steps() leads(label) straight(label) leads_name(name) __eq__(other)"
                         " __repr__()",
    ("bridges",
     "Bridge"): "steps() joined_to(other) leads(label) straight(label) leads_name(name) __eq__(other) __len__()",
    ("bench",
     "Bench"): "founded(name, grammar) turn(name, deeds) summed(name, marks, sums) unsummed(name) laid_out(name, marks)"
                        " opened(name, grammar, text, *, still=False) closed(name) edit(name, at, *, gone=0, put='')"
                        " edits(name, rows) lead(name) undo() redo() mend(name) tongues() docs() versions(name)"
                        " grammar_of(name, *, version=None) sums_of(name, *, version=None) layout_of(name, *, version=None)"
                        " bridge_of(name, version) about(name) document(name) print_of(name, *, width=None) worths_of(name)"
                        " hangs_of(name) papers_of(name) spared() changed() is_busy() entries() __eq__(other) __len__() __repr__()",
    ("desk", "Desk"): "say(row) log_text() log() entries() is_busy() __eq__(other) __len__() __repr__()",
}


def signed(thing):
    """The arguments of a function as Python tells them, without self."""
    return str(inspect.signature(thing)).replace("(self, ", "(").replace("(self)", "()")


def names_and_arguments(row):
    """All (name, arguments) of a row of the tables."""
    return re.findall(r"(\w+)(\((?:[^()]|\(\))*\))", row)


def parameters(thing):
    return list(inspect.signature(thing).parameters.values())


class Interface(unittest.TestCase):
    def test_functions_stand_in_their_files(self):
        for file, functions in FUNCTIONS.items():
            module = importlib.import_module("tongueyard." + file)
            for name, wanted in functions.items():
                function = getattr(module, name)
                self.assertEqual(function.__module__, "tongueyard." + file, name)
                self.assertEqual([found.name for found in parameters(function)], wanted.replace("*", "").split(), name)
                for found, told in zip(parameters(function), wanted.split()):
                    by_name = told.startswith("*")
                    self.assertIs(found.default, None if by_name else inspect.Parameter.empty)
                    self.assertEqual(found.kind == inspect.Parameter.KEYWORD_ONLY, by_name)

    def test_grammar(self):
        module = importlib.import_module("tongueyard.grammars")
        grammar = module.Grammar
        self.assertEqual(grammar.__module__, "tongueyard.grammars")
        found = parameters(grammar)
        self.assertEqual([one.name for one in found], ["kinds", "rules", "begin", "bars"])
        self.assertEqual([one.kind for one in found[2:]], [inspect.Parameter.KEYWORD_ONLY] * 2)
        self.assertEqual([one.default for one in found[2:]], [None, ()])
        for name, wanted in METHODS.items():
            self.assertIn(name, vars(grammar))
            self.assertEqual([one.name for one in parameters(vars(grammar)[name])], ["self"] + wanted.split())

    def test_parted(self):
        module = importlib.import_module("tongueyard.bars")
        self.assertEqual(module.Parted.__module__, "tongueyard.bars")
        for name, wanted in {"plain": [], "led_in": ["shape"], "led_out": ["shape"], "old_label": ["label"]}.items():
            self.assertEqual([one.name for one in parameters(vars(module.Parted)[name])], ["self"] + wanted)

    def test_arguments_by_their_names(self):
        for file, name, ahead, named, default in NAMED_ONES:
            function = getattr(importlib.import_module("tongueyard." + file), name)
            self.assertEqual(function.__module__, "tongueyard." + file)
            found = parameters(function)
            self.assertEqual([one.name for one in found], ahead + [named])
            self.assertEqual([one.default for one in found], [inspect.Parameter.empty] * len(ahead) + [default])
            self.assertEqual(found[-1].kind, inspect.Parameter.KEYWORD_ONLY)

    def test_classes(self):
        for (file, name, made_of), methods in CLASSES.items():
            found = getattr(importlib.import_module("tongueyard." + file), name)
            self.assertEqual(found.__module__, "tongueyard." + file)
            self.assertEqual([one.name for one in parameters(found)], made_of.split())
            for method, wanted in methods.items():
                self.assertIn(method, vars(found))
                self.assertEqual([one.name for one in parameters(vars(found)[method])], ["self"] + wanted.split())

    def test_signed_ones(self):
        for file, row in SIGNED.items():
            module = importlib.import_module("tongueyard." + file)
            for name, arguments in names_and_arguments(row):
                found = getattr(module, name)
                self.assertEqual((found.__module__, signed(found)), ("tongueyard." + file, arguments), name)
        for (file, name), row in SIGNED_METHODS.items():
            found = getattr(importlib.import_module("tongueyard." + file), name)
            self.assertGreater(len(names_and_arguments(row)), 1)
            for method, arguments in names_and_arguments(row):
                self.assertIn(method, vars(found))
                self.assertEqual(signed(vars(found)[method]), arguments, method)

    def test_values_of_the_later_stages(self):
        rounds = importlib.import_module("tongueyard.rounds")
        self.assertEqual((rounds.CHOICES, rounds.NODES), (300, 120))
        self.assertEqual(importlib.import_module("tongueyard.documents").LIMIT, 200)
        self.assertIs(type(importlib.import_module("tongueyard.treetexts").TREES), str)

    def test_values(self):
        self.assertEqual(importlib.import_module("tongueyard.grammars").END, ".")
        self.assertEqual(len(importlib.import_module("tongueyard.patterns").SIGNS), 95)
        sorts = importlib.import_module("tongueyard.sorts")
        self.assertEqual((sorts.MOST, sorts.LONG, sorts.MEMBERS), (1000000000, 60, 40))
        self.assertIs(type(importlib.import_module("tongueyard.gtexts").META), str)
        self.assertEqual(importlib.import_module("tongueyard.twice").TEXTS, 200)
        self.assertEqual(importlib.import_module("tongueyard.states").STATES, 120)
