"""Points 30 to 33: what is known of grammars, checked by walks over shapes and by a search among the small ones."""

import copy
import unittest

from tests.brute import signs
from tests.brute_grammars import (BARRED, NAMED, SUMS, all_nodes, grammar_of, is_plain_shape, labels_by_rule,
                                  numbers_of_shape, rows_of, shapes_up_to, some_grammars, spelled_plainly)
from tests.brute_reading import barren_rules
from tongueyard.errors import Barred
from tongueyard.grammars import END, Grammar
from tongueyard.known import begins, can_be_empty, follows, known_paper, least, ring, stands
from tongueyard.trees import is_shape, spelled_by

SAMPLES = list(NAMED.values()) + some_grammars(3, 60)
MAKERS = (least, can_be_empty, stands, begins, follows, ring, known_paper)
DEPTH = 6


def clean_rows(grammar):
    """The clean alternatives (rule, label, row)."""
    barren = barren_rules(grammar)
    return [(name, label, row) for name, alternatives in grammar.rules() for label, row in alternatives
            if not any(part in barren for part in row)]


def next_kind(row, place):
    return row[place] if place < len(row) else END


def found_in(grammar, name=None):
    """(shape, row, nodes) of all small shapes of a rule."""
    return [(shape, spelled_plainly(grammar, shape, name), all_nodes(grammar, shape, name))
            for shape in shapes_up_to(grammar, DEPTH, name)]


class Least(unittest.TestCase):
    def test_against_a_slow_search(self):
        for grammar in SAMPLES:
            told = least(grammar)
            self.assertEqual(sorted(told), sorted(set(labels_by_rule(grammar)) - set(barren_rules(grammar))))
            for name, shape in told.items():
                self.assertTrue(is_plain_shape(grammar, shape, spelled_plainly(grammar, shape, name), name))
                for other in shapes_up_to(grammar, DEPTH + 1, name):
                    self.assertLessEqual(self.place(grammar, shape, name), self.place(grammar, other, name))

    def place(self, grammar, shape, name):
        return len(spelled_plainly(grammar, shape, name)), len(shape), numbers_of_shape(grammar, shape)

    def test_fewest_words_then_labels_then_the_first(self):
        self.assertEqual(least(grammar_of("a: p x | q b b\n b: r c\n c: s d\n d: t")),
                         {"a": ("q", "r", "s", "t", "r", "s", "t"), "b": ("r", "s", "t"), "c": ("s", "t"), "d": ("t",)})
        self.assertEqual(least(grammar_of("a: p b x | q x | r y\n b: s")), {"a": ("q",), "b": ("s",)})
        self.assertEqual(least(grammar_of("a: p x | q y | r x y"))["a"], ("p",))
        self.assertEqual(least(grammar_of("a: p b c\n b: q | r\n c: s c | t x | u b x | v y"))["a"], ("p", "q", "t"))
        # By labels' numbers, not by their names or the order in which shapes are found.
        self.assertEqual(least(grammar_of("a: z b | y c\n b: x e\n c: w e\n e: v"))["a"], ("z", "x", "v"))

    def test_long_ones(self):
        rows = ["a%s: l%s %s" % ("bcdefghij"[at], "bcdefghij"[at], " ".join(["a" + "bcdefghijk"[at + 1]] * 3))
                for at in range(8)] + ["aj: m x"]
        grammar = grammar_of("\n".join(rows))
        shape = least(grammar)["ab"]
        self.assertEqual(len(shape), (3 ** 9 - 1) // 2)
        self.assertTrue(is_shape(grammar, shape, ["x"] * 3 ** 8))
        self.assertEqual(begins(grammar)["ab"]["x"], shape)
        self.assertEqual(ring(grammar), None)
        found, node = follows(grammar)["aj"]["x"]
        self.assertEqual((len(spelled_by(grammar, found)), found[node]), (3 ** 8, "m"))

    def test_can_be_empty(self):
        for grammar in SAMPLES:
            told = can_be_empty(grammar)
            self.assertEqual(told, sorted(name for name, shape in least(grammar).items()
                                          if not spelled_plainly(grammar, shape, name)))
        self.assertEqual(can_be_empty(grammar_of("c: p a b\n b: q\n a: r | s x\n d: t d\n e: u x")), ["a", "b", "c"])


class Stands(unittest.TestCase):
    def test_told_ones_by_a_walk_others_by_a_search(self):
        for grammar in SAMPLES:
            told = stands(grammar)
            for name, (shape, node) in told.items():
                self.assertTrue(is_plain_shape(grammar, shape, spelled_plainly(grammar, shape)))
                self.assertIn(shape[node], labels_by_rule(grammar)[name])
            for _, _, nodes in found_in(grammar):
                self.assertTrue(all(node[0] in told for node in nodes))
            self.assertEqual(sorted(told), sorted(self.reached(grammar)))

    def reached(self, grammar):
        barren = barren_rules(grammar)
        met = [] if grammar.begin() in barren else [grammar.begin()]
        for name in met:
            for home, _, row in clean_rows(grammar):
                for part in row:
                    if home == name and part in labels_by_rule(grammar) and part not in met:
                        met.append(part)
        return met

    def test_by_hand(self):
        grammar = grammar_of("a: p b | q x c\n b: r b\n c: s\n d: t a")
        self.assertEqual(stands(grammar), {"a": (("q", "s"), 0), "c": (("q", "s"), 1)})
        self.assertEqual(stands(grammar_of("a: p a")), {})


class Begins(unittest.TestCase):
    def test_told_ones_by_a_walk_others_by_a_search(self):
        for grammar in SAMPLES:
            told = begins(grammar)
            self.assertEqual(sorted(told), sorted(least(grammar)))
            for name, shapes in told.items():
                for kind, shape in shapes.items():
                    row = spelled_plainly(grammar, shape, name)
                    self.assertTrue(is_plain_shape(grammar, shape, row, name))
                    self.assertEqual(row[0], kind)
                for _, row, _ in found_in(grammar, name):
                    self.assertTrue(not row or row[0] in shapes)

    def test_by_hand(self):
        self.assertEqual({name: sorted(told) for name, told in begins(SUMS).items()},
                         {"sum": ["num", "plus"], "term": ["num"]})
        self.assertEqual(begins(grammar_of("a: p b x\n b: q | r b | s y"))["b"], {"y": ("s",)})
        self.assertEqual(begins(grammar_of("a: p | q b\n b: r b x")), {"a": {}})


class Follows(unittest.TestCase):
    def test_told_ones_by_a_walk_others_by_a_search(self):
        for grammar in SAMPLES:
            told = follows(grammar)
            self.assertEqual(sorted(told), sorted(stands(grammar)))
            for name, kinds in told.items():
                for kind, (shape, node) in kinds.items():
                    row, nodes = spelled_plainly(grammar, shape), all_nodes(grammar, shape)
                    self.assertTrue(is_plain_shape(grammar, shape, row))
                    self.assertEqual((nodes[node][0], next_kind(row, nodes[node][2])), (name, kind))
            for _, row, nodes in found_in(grammar):
                for name, _, behind, _ in nodes:
                    self.assertIn(next_kind(row, behind), told[name])

    def test_by_hand(self):
        self.assertEqual({name: sorted(told) for name, told in follows(SUMS).items()},
                         {"sum": [".", "plus"], "term": [".", "plus"]})
        grammar = grammar_of("a: p b c x | q\n b: r y\n c: s | t y")
        self.assertEqual({name: sorted(told) for name, told in follows(grammar).items()},
                         {"a": ["."], "b": ["x", "y"], "c": ["x"]})
        self.assertEqual(follows(grammar_of("a: p b\n b: q b")), {})


def rings_found(grammar):
    """Whether in some small shape of the beginning a rule comes to itself over the same words."""
    for _, _, nodes in found_in(grammar):
        for at, (name, first, behind, end) in enumerate(nodes):
            if (name, first, behind) in [node[:3] for node in nodes[at + 1:end]]:
                return True
    return False


class Ring(unittest.TestCase):
    def test_against_a_search(self):
        some = 0
        for grammar in SAMPLES:
            told = ring(grammar)
            if told is None:
                self.assertFalse(rings_found(grammar), grammar.rules())
            else:
                some += 1
                self.check(grammar, told)
        self.assertTrue(10 < some < len(SAMPLES) - 10)

    def check(self, grammar, told):
        rows, empty = rows_of(grammar), can_be_empty(grammar)
        self.assertIs(type(told), list)
        labels = [label for label, _ in told]
        self.assertEqual(len(labels), len(set(labels)))
        for at, (label, place) in enumerate(told):
            self.assertEqual(rows[label][place - 1], grammar.rule_of(labels[(at + 1) % len(told)]))
            others = rows[label][:place - 1] + rows[label][place:]
            self.assertTrue(all(part in empty for part in others))
            self.assertIn((grammar.rule_of(label), label), [(name, one) for name, one, _ in clean_rows(grammar)])
        self.put_around(grammar, told)

    def put_around(self, grammar, told):
        """The ring around a node of its rule, and around that again, in a shape of the beginning."""
        name, shapes = grammar.rule_of(told[0][0]), least(grammar)
        shape, node = stands(grammar)[name]
        end = all_nodes(grammar, shape)[node][3]
        inner = shape[node:end]
        for _ in range(3):
            for label, place in told[::-1]:
                row = rows_of(grammar)[label]
                parts = [shapes[part] for part in row]
                parts[place - 1] = inner
                inner = (label,) + sum(parts, ())
            longer = shape[:node] + inner + shape[end:]
            self.assertTrue(is_shape(grammar, longer, spelled_by(grammar, shape)))

    def test_by_hand(self):
        self.assertEqual(ring(grammar_of("a: p a")), None)
        self.assertEqual(ring(grammar_of("a: p a | q")), [("p", 1)])
        self.assertEqual(ring(grammar_of("a: p b a | q x\n b: r")), [("p", 2)])
        self.assertEqual(ring(grammar_of("a: p b a | q x\n b: r y")), None)
        self.assertEqual(ring(grammar_of("a: p x | q c\n b: r b | s\n c: t y")), None)
        self.assertEqual(sorted(ring(NAMED["ring"])), [("p", 1), ("r", 2)])
        # Two parts of an alternative may be rules that can be empty, the ring goes through one of them.
        self.assertIn(ring(grammar_of("a: p a a | q")), ([("p", 1)], [("p", 2)]))


class KnownPaper(unittest.TestCase):
    def test_each_condition(self):
        for grammar in SAMPLES + [SUMS]:
            paper = known_paper(grammar)
            self.assertEqual((len(paper), paper[0]), (7, "known"))
            self.assertTrue(all(type(part) is tuple for part in paper[1:]))
            for told, keys in zip(paper[1:5], (1, 2, 1, 2)):
                self.assertEqual(list(told), sorted(told))
                self.assertEqual(len({row[:keys] for row in told}), len(told))
            self.check_shapes(grammar, *paper[1:5])
            self.check_least(grammar, {name: shape for name, shape in paper[1]})
            self.check_begins(grammar, [row[:2] for row in paper[2]])
            self.check_stands(grammar, [row[0] for row in paper[3]])
            self.check_follows(grammar, [row[0] for row in paper[3]], [row[:2] for row in paper[4]],
                               [row[:2] for row in paper[2]])
            self.check_ring(grammar, [row[0] for row in paper[3]], paper[5], paper[6])

    def check_shapes(self, grammar, least_ones, begun, standing, following):
        for name, shape in least_ones:
            self.assertTrue(is_plain_shape(grammar, shape, spelled_plainly(grammar, shape, name), name))
        for name, kind, shape in begun:
            row = spelled_plainly(grammar, shape, name)
            self.assertTrue(is_plain_shape(grammar, shape, row, name) and row[0] == kind)
        for name, shape, node in standing:
            self.assertTrue(is_plain_shape(grammar, shape, spelled_plainly(grammar, shape)))
            self.assertEqual(all_nodes(grammar, shape)[node][0], name)
        for name, kind, shape, node in following:
            row = spelled_plainly(grammar, shape)
            self.assertTrue(is_plain_shape(grammar, shape, row))
            found = all_nodes(grammar, shape)[node]
            self.assertEqual((found[0], next_kind(row, found[2])), (name, kind))

    def check_least(self, grammar, shapes):
        for name, alternatives in grammar.rules():
            for _, row in alternatives:
                parts = [part for part in row if part in labels_by_rule(grammar)]
                if all(part in shapes for part in parts):
                    words = len(row) - len(parts) + sum(len(spelled_plainly(grammar, shapes[p], p)) for p in parts)
                    labels = 1 + sum(len(shapes[part]) for part in parts)
                    told = len(spelled_plainly(grammar, shapes[name], name)), len(shapes[name])
                    self.assertLessEqual(told, (words, labels))

    def check_begins(self, grammar, begun):
        empty = can_be_empty(grammar)
        for name, _, row in clean_rows(grammar):
            for part in row:
                heads = [kind for other, kind in begun if other == part] if part in labels_by_rule(grammar) else [part]
                self.assertTrue(all((name, kind) in begun for kind in heads))
                if part not in empty:
                    break

    def check_stands(self, grammar, standing):
        if grammar.begin() not in barren_rules(grammar):
            self.assertIn(grammar.begin(), standing)
        for name, _, row in clean_rows(grammar):
            for part in row:
                if name in standing and part in labels_by_rule(grammar):
                    self.assertIn(part, standing)

    def check_follows(self, grammar, standing, following, begun):
        empty, rules = can_be_empty(grammar), labels_by_rule(grammar)
        if grammar.begin() in standing:
            self.assertIn((grammar.begin(), END), following)
        for name, _, row in clean_rows(grammar):
            for at, part in enumerate(row):
                if name not in standing or part not in rules:
                    continue
                rest = list(row[at + 1:])
                while rest:
                    heads = [kind for other, kind in begun if other == rest[0]] if rest[0] in rules else [rest[0]]
                    self.assertTrue(all((part, kind) in following for kind in heads))
                    if rest[0] not in empty:
                        break
                    rest.pop(0)
                if not rest:
                    self.assertTrue(all((part, kind) in following for other, kind in following if other == name))

    def check_ring(self, grammar, standing, told, falls):
        self.assertEqual(told, tuple(ring(grammar) or ()))
        if told:
            self.assertEqual(falls, ())
            return
        self.assertEqual(sorted(name for name, _ in falls), sorted(standing))
        self.assertEqual(list(falls), sorted(falls))
        numbers, empty = dict(falls), can_be_empty(grammar)
        for name, _, row in clean_rows(grammar):
            for at, part in enumerate(row):
                others = row[:at] + row[at + 1:]
                if name in numbers and part in numbers and all(other in empty for other in others):
                    self.assertGreater(numbers[name], numbers[part])

    def test_by_hand(self):
        self.assertEqual(known_paper(grammar_of("a: p b | q x\n b: r b")),
                         ("known", (("a", ("q",)),), (("a", "x", ("q",)),), (("a", ("q",), 0),),
                          (("a", END, ("q",), 0),), (), (("a", 0),)))
        self.assertEqual(known_paper(grammar_of("a: p a")), ("known", (), (), (), (), (), ()))
        self.assertEqual(known_paper(grammar_of("a: p b\n b: q c\n c: r"))[6], (("a", 2), ("b", 1), ("c", 0)))


class Kept(unittest.TestCase):
    def test_barred_ahead_of_all(self):
        for grammar in BARRED.values():
            for maker in MAKERS:
                with self.assertRaises(Barred) as caught:
                    maker(grammar)
                self.assertEqual(caught.exception.label, grammar.bars()[0][0])
        # Also where the beginning is barren and where there is a ring.
        self.assertRaises(Barred, least, grammar_of("a: p a", bars=(("p", 1, "p"),)))

    def test_told_alike_and_the_askers_own(self):
        for grammar in SAMPLES:
            for maker in MAKERS:
                told = maker(grammar)
                wanted = copy.deepcopy(told)
                self.assertEqual(maker(grammar), wanted)
                self.spoil(told)
                self.assertEqual(maker(grammar), wanted)

    def spoil(self, told):
        if isinstance(told, dict):
            for inner in told.values():
                self.spoil(inner)
            told.clear()
        elif isinstance(told, list):
            told.clear()

    def test_what_was_handed_in_stays(self):
        kinds, rules = [("x", signs("x"), False)], [("a", [("p", ("x", "a")), ("q", ())])]
        grammar = Grammar(kinds, rules)
        for maker in MAKERS:
            maker(grammar)
        self.assertEqual((grammar.kinds(), grammar.rules()), (kinds, rules))
        self.assertEqual(grammar, Grammar(kinds, rules))

    def test_kinds_of_told_things(self):
        for grammar in SAMPLES:
            self.assertTrue(all(type(shape) is tuple for shape in least(grammar).values()))
            for told in (stands(grammar).values(), [two for one in follows(grammar).values() for two in one.values()]):
                self.assertTrue(all(type(pair) is tuple and type(pair[0]) is tuple for pair in told))
            self.assertIs(type(can_be_empty(grammar)), list)
