"""Points 28 and 29: shapes and trees, checked by a slow plain walk."""

import unittest
from itertools import product

from tests.brute import more, signs, word
from tests.brute_grammars import (BARRED, NAMED, SUMS, all_nodes, grammar_of, is_plain_shape, labels_by_rule, nested,
                                  rows_of, shapes_up_to, some_grammars, spelled_plainly, tree_of)
from tongueyard.errors import NoNode, NoTree
from tongueyard.grammars import Grammar
from tongueyard.trees import (flat, is_shape, is_tree, need_tree, nodes_of, numbered, part_at, parts_of, put_at,
                              spelled_by)

SAMPLES = list(NAMED.values()) + list(BARRED.values()) + some_grammars(1, 25) + some_grammars(2, 25, True)
ANYTHING = [None, True, 0, -1, 7, 1.5, "", "one", b"one", (), [], {}, {"one": 1}, {1}, object(), str, len,
            ("one",), ("one", "leaf"), (("one", "none"),), (("one", "none"), ()), ("ab", ()), ([], ())]


def wrong_at(call, *arguments, **more_arguments):
    """The node of the NoTree with which a call is refused; "no" where it is not."""
    try:
        call(*arguments, **more_arguments)
    except NoTree as refusal:
        return refusal.node
    return "no"


def texts_of(labels, most):
    for length in range(most + 1):
        yield from product(labels, repeat=length)


def goes_on(grammar, start, name):
    """Whether labels begin some shape, bars minded, as far as labels due there can be chosen at all."""
    rows, labels = rows_of(grammar), labels_by_rule(grammar)
    due = [(name, None)]
    for label in start:
        if not due:
            return False
        symbol, at = due.pop(0)
        if label not in labels[symbol] or (at is not None and (at[0], at[1], label) in grammar.bars()):
            return False
        due = [(part, (label, place)) for place, part in enumerate(rows[label], 1) if part in labels] + due
    return True


def first_wrong(grammar, shape, name):
    for many in range(len(shape)):
        if not goes_on(grammar, shape[:many + 1], name):
            return many
    return len(shape)


class Shapes(unittest.TestCase):
    def test_all_short_texts_of_labels(self):
        for grammar in SAMPLES:
            for name in [None] + list(labels_by_rule(grammar)):
                for shape in texts_of(grammar.labels(), 2 if len(grammar) > 5 else 3):
                    self.check(grammar, shape, name)

    def check(self, grammar, shape, name):
        walked = nested(grammar, shape, name)
        row = [] if walked is None else spelled_plainly(grammar, shape, name)
        right = is_plain_shape(grammar, shape, row, name)
        self.assertIs(is_shape(grammar, shape, row, name=name), right)
        if right:
            self.assertEqual(spelled_by(grammar, shape, name=name), row)
            self.assertIs(is_shape(grammar, shape, row + ["x"], name=name), False)
            self.assertIs(is_shape(grammar, shape, row[1:] if row else ["x"], name=name), False)
        else:
            begin = grammar.begin() if name is None else name
            wanted = first_wrong(grammar, shape, begin)
            for ask in (spelled_by, nodes_of, parts_of):
                self.assertEqual(wrong_at(ask, grammar, shape, name=name), wanted, (grammar.rules(), shape, name))
            self.assertEqual(wrong_at(need_tree, grammar, (shape, ()), name=name), wanted)
            self.assertIs(is_tree(grammar, (shape, ()), name=name), False)

    def test_longer_shapes_and_their_nodes(self):
        for grammar in SAMPLES:
            for name in [None] + list(labels_by_rule(grammar)):
                for shape in shapes_up_to(grammar, 5, name)[:60]:
                    self.check_nodes(grammar, shape, name)

    def check_nodes(self, grammar, shape, name):
        row = spelled_plainly(grammar, shape, name)
        self.assertTrue(is_shape(grammar, shape, row, name=name))
        self.assertTrue(is_shape(grammar, shape, tuple(row), name=name))
        nodes, parts = nodes_of(grammar, shape, name=name), parts_of(grammar, shape, name=name)
        wanted = all_nodes(grammar, shape, name)
        self.assertEqual([node[2:] for node in nodes], [node[1:] for node in wanted])
        self.assertEqual(nodes[0][:2], (None, 0))
        rows = rows_of(grammar)
        for number, told in enumerate(parts):
            self.assertEqual(len(told), len(rows[shape[number]]))
            at = nodes[number][2]
            for place, (sort, part) in enumerate(told, 1):
                if sort == "node":
                    self.assertEqual(nodes[part][:3], (number, place, at))
                    at = nodes[part][3]
                else:
                    self.assertEqual((sort, part, row[at]), ("word", at, rows[shape[number]][place - 1]))
                    at += 1
            self.assertEqual(at, nodes[number][3])
        self.assertEqual(sorted(part for told in parts for sort, part in told if sort == "node"),
                         list(range(1, len(shape))))

    def test_told_by_hand(self):
        shape = ("both", "one", "leaf", "none")
        self.assertEqual(spelled_by(SUMS, shape), ["num", "plus"])
        self.assertEqual(nodes_of(SUMS, shape), [(None, 0, 0, 2, 4), (0, 1, 0, 1, 3), (1, 1, 0, 1, 3), (0, 3, 2, 2, 4)])
        self.assertEqual(parts_of(SUMS, shape), [[("node", 1), ("word", 1), ("node", 3)], [("node", 2)], [("word", 0)], []])
        self.assertEqual(spelled_by(SUMS, ("leaf",), name="term"), ["num"])
        self.assertEqual(wrong_at(spelled_by, SUMS, ("leaf",)), 0)

    def test_where_it_is_wrong(self):
        for shape, wanted in (((), 0), (("one",), 1), (("both", "one"), 2), (("leaf",), 0), (("one", "one"), 1),
                              (("one", "leaf", "leaf"), 2), (("one", "none", "none"), 2), (("none", "one"), 0),
                              (("both", "one", "leaf", "both"), 3), (("", "one"), 0), (("one", "nil"), 1),
                              (("both", "one", "leaf", "leaf", "one", "one"), 4)):
            self.assertEqual(wrong_at(spelled_by, SUMS, shape), wanted, shape)
            self.assertIs(is_shape(SUMS, shape, []), False)

    def test_bars_kept_and_broken(self):
        grammar = grammar_of("a: p a x a | q y", bars=(("p", 3, "p"),))
        self.assertTrue(is_shape(grammar, ("p", "p", "q", "q", "q"), "yxyxy"))
        self.assertFalse(is_shape(grammar, ("p", "q", "p", "q", "q"), "yxyxy"))
        self.assertEqual(wrong_at(nodes_of, grammar, ("p", "q", "p", "q", "q")), 2)
        # It is told at the barred label, also where others are wrong behind it.
        self.assertEqual(wrong_at(nodes_of, grammar, ("p", "q", "p", "nil")), 2)
        self.assertEqual(wrong_at(nodes_of, grammar, ("p", "nil", "p")), 1)

    def test_shapes_of_however_many_labels(self):
        grammar = grammar_of("a: p x a | q")
        shape = ("p",) * 20000 + ("q",)
        self.assertTrue(is_shape(grammar, shape, ["x"] * 20000))
        self.assertFalse(is_shape(grammar, shape, ["x"] * 19999))
        self.assertEqual(wrong_at(spelled_by, grammar, shape[:-1]), 20000)
        self.assertEqual(nodes_of(grammar, shape)[-1], (19999, 2, 20000, 20000, 20001))
        tree = (shape, (("x", "x"),) * 20000)
        self.assertTrue(is_tree(grammar, tree))
        self.assertEqual(part_at(grammar, tree, 19998), (("p", "p", "q"), (("x", "x"), ("x", "x"))))
        self.assertEqual(flat(*numbered(grammar, tree)), tree)


class Trees(unittest.TestCase):
    def test_anything(self):
        for thing in ANYTHING:
            self.assertIs(is_tree(SUMS, thing), thing == (("one", "none"), ()), thing)
            wanted = "no" if thing == (("one", "none"), ()) else None
            self.assertEqual(wrong_at(need_tree, SUMS, thing), wanted, thing)

    def test_shapes_of_anything(self):
        for label in ANYTHING:
            if label != "one":
                self.assertIs(is_tree(SUMS, ((label, "none"), ())), False)
                self.assertEqual(wrong_at(need_tree, SUMS, ((label, "none"), ())), 0)
                self.assertEqual(wrong_at(need_tree, SUMS, (("one", label), ())), 1)
                self.assertEqual(wrong_at(need_tree, SUMS, (("one", "none", label), ())), 2)

    def test_words(self):
        kinds = [("num", more(signs("0123456789")), False), ("id", word("ab"), False)]
        grammar = Grammar(kinds, [("a", [("p", ("num", "id"))])])
        self.assertTrue(is_tree(grammar, (("p",), (("num", "70"), ("id", "ab")))))
        for words in ((), (("num", "70"),), (("num", "70"), ("id", "ab"), ("id", "ab")), (("id", "ab"), ("num", "70")),
                      (("num", ""), ("id", "ab")), (("num", "7a"), ("id", "ab")), (("num", "70"), ("id", "b")),
                      (("num", "ab"), ("num", "ab")), (("num", 70), ("id", "ab")), (("num", b"70"), ("id", "ab")),
                      (("num", "70", ""), ("id", "ab")), (("num",), ("id", "ab")), ("70", "ab"), (None, ("id", "ab")),
                      (["num", "70"], ("id", "ab")), [("num", "70"), ("id", "ab")], None, "70ab", 2,
                      ((["num"], "70"), ("id", "ab")), (("num", ["7"]), ("id", "ab")), (("num", "\u0667"), ("id", "ab"))):
            self.assertIs(is_tree(grammar, (("p",), words)), False, words)
            self.assertIsNone(wrong_at(need_tree, grammar, (("p",), words)), words)

    def test_a_text_of_a_kind_ahead_may_be_its_words_text(self):
        grammar = Grammar([("if", word("if"), False), ("id", more(signs("fi")), False)], [("a", [("p", ("id", "id"))])])
        self.assertTrue(is_tree(grammar, (("p",), (("id", "if"), ("id", "ff")))))

    def test_forms(self):
        good = (("one", "none"), ())
        for thing in (list(good), good + ((),), good[:1], (["one", "none"], ()), ("one", ()), (good, ())):
            self.assertIs(is_tree(SUMS, thing), False)
        self.assertIsNone(wrong_at(need_tree, SUMS, (["one", "none"], ())))
        self.assertEqual(wrong_at(need_tree, SUMS, ((good,), ())), 0)
        # The shape goes ahead of the words.
        self.assertEqual(wrong_at(need_tree, SUMS, (("one", "one"), None)), 1)
        self.assertIsNone(wrong_at(need_tree, SUMS, (("one", "leaf"), None)))

    def test_of_a_rule(self):
        self.assertTrue(is_tree(SUMS, (("leaf",), (("num", "7"),)), name="term"))
        self.assertFalse(is_tree(SUMS, (("leaf",), (("num", "7"),)), name="sum"))
        self.assertFalse(is_tree(SUMS, (("leaf",), (("num", "7"),))))
        self.assertIsNone(need_tree(SUMS, (("leaf",), (("num", "7"),)), name="term"))
        self.assertEqual(wrong_at(need_tree, SUMS, (("leaf",), (("num", "7"),))), 0)


class Parts(unittest.TestCase):
    def samples(self):
        for grammar in SAMPLES:
            for name in labels_by_rule(grammar):
                for shape in shapes_up_to(grammar, 5, name)[:25]:
                    yield grammar, tree_of(grammar, shape, name)

    def test_part_at(self):
        for grammar, tree in self.samples():
            for node, (name, first, behind, end) in enumerate(all_nodes(grammar, tree[0], grammar.rule_of(tree[0][0]))):
                part = part_at(grammar, tree, node)
                self.assertEqual(part, (tree[0][node:end], tree[1][first:behind]))
                self.assertTrue(is_tree(grammar, part, name=name))
                self.assertEqual(put_at(grammar, tree, node, part), tree)

    def test_put_at(self):
        for grammar, tree in self.samples():
            for node, (name, first, behind, end) in enumerate(all_nodes(grammar, tree[0], grammar.rule_of(tree[0][0]))):
                for shape in shapes_up_to(grammar, 3, name)[:4]:
                    self.check_put(grammar, tree, node, tree_of(grammar, shape, name), (first, behind, end))

    def check_put(self, grammar, tree, node, other, spans):
        first, behind, end = spans
        wanted = (tree[0][:node] + other[0] + tree[0][end:], tree[1][:first] + other[1] + tree[1][behind:])
        if is_tree(grammar, wanted, name=grammar.rule_of(wanted[0][0])):
            self.assertEqual(put_at(grammar, tree, node, other), wanted)
        else:
            self.assertEqual(wrong_at(put_at, grammar, tree, node, other), node)

    def test_there_and_back(self):
        for grammar, tree in self.samples():
            top, nodes = numbered(grammar, tree)
            self.assertEqual((top, list(nodes)), (0, list(range(len(tree[0])))))
            parts = parts_of(grammar, tree[0], name=grammar.rule_of(tree[0][0]))
            for number, (label, told) in nodes.items():
                self.assertEqual(label, tree[0][number])
                self.assertEqual(told, tuple(p if sort == "node" else tree[1][p] for sort, p in parts[number]))
            self.assertEqual(flat(top, nodes), tree)

    def test_flat_with_any_numbers_in_any_order(self):
        for grammar, tree in self.samples():
            _, nodes = numbered(grammar, tree)
            names = {number: (number * 7 - 40) * 10 ** (number % 30) for number in nodes}
            self.assertEqual(len(set(names.values())), len(names))
            turned = {}
            for number in sorted(nodes, key=lambda number: (number % 3, -number)):
                label, parts = nodes[number]
                turned[names[number]] = (label, tuple(names[p] if isinstance(p, int) else p for p in parts))
            self.assertEqual(flat(names[0], turned), tree)

    def test_told_by_hand(self):
        tree = (("both", "one", "leaf", "none"), (("num", "12"), ("plus", "+")))
        self.assertEqual(part_at(SUMS, tree, 1), (("one", "leaf"), (("num", "12"),)))
        self.assertEqual(part_at(SUMS, tree, 3), (("none",), ()))
        self.assertEqual(part_at(SUMS, (("leaf",), (("num", "7"),)), 0), (("leaf",), (("num", "7"),)))
        self.assertEqual(numbered(SUMS, tree), (0, {0: ("both", (1, ("plus", "+"), 3)), 1: ("one", (2,)),
                                                   2: ("leaf", (("num", "12"),)), 3: ("none", ())}))
        other = (("leaf",), (("num", "7"),))
        self.assertEqual(put_at(SUMS, tree, 3, other),
                         (("both", "one", "leaf", "leaf"), (("num", "12"), ("plus", "+"), ("num", "7"))))
        self.assertEqual(flat(9, {3: ("leaf", (("num", "7"),)), 9: ("one", (3,))}), (("one", "leaf"), (("num", "7"),)))
        self.assertEqual(flat(-1, {-1: ("none", ())}), (("none",), ()))


class Refused(unittest.TestCase):
    TREE = (("both", "one", "leaf", "none"), (("num", "12"), ("plus", "+")))
    LEAF = (("leaf",), (("num", "7"),))

    def test_trees_of_the_rule_of_their_first_label(self):
        for call in (lambda tree: part_at(SUMS, tree, 0), lambda tree: numbered(SUMS, tree),
                     lambda tree: put_at(SUMS, tree, 0, self.LEAF)):
            self.assertEqual(wrong_at(call, self.LEAF), "no")
            for tree, wanted in ((((), ()), 0), ((("nil",), ()), 0), ((("one",), ()), 1), ((("leaf", "leaf"), ()), 1),
                                 ((("leaf",), ()), None), (None, None), (([], ()), None), (((["one"],), ()), 0)):
                self.assertEqual(wrong_at(call, tree), wanted, tree)

    def test_no_node(self):
        for number in (-1, 4, 10 ** 29, True, False, None, "1", 1.0, (1,), [1], {}, object()):
            for call in (lambda: part_at(SUMS, self.TREE, number), lambda: put_at(SUMS, self.TREE, number, self.LEAF)):
                with self.assertRaises(NoNode) as caught:
                    call()
                self.assertEqual(caught.exception.number, number)
                self.assertIs(type(caught.exception.number), type(number))

    def test_the_other_tree(self):
        self.assertEqual(wrong_at(put_at, SUMS, self.TREE, 1, self.LEAF), 0)
        self.assertEqual(wrong_at(put_at, SUMS, self.TREE, 3, (("one", "leaf"), (("num", "7"),))), 0)
        self.assertEqual(wrong_at(put_at, SUMS, self.TREE, 1, (("one",), ())), 1)
        self.assertEqual(wrong_at(put_at, SUMS, self.TREE, 1, (("one", "none", "none"), ())), 2)
        self.assertIsNone(wrong_at(put_at, SUMS, self.TREE, 3, (("leaf",), (("num", "a"),))))
        self.assertIsNone(wrong_at(put_at, SUMS, self.TREE, 3, None))

    def test_barred_in_the_other_one_and_in_the_whole(self):
        grammar = grammar_of("a: p a x a | q y", bars=(("p", 3, "p"),))
        tree = (("p", "q", "q"), (("y", "y"), ("x", "x"), ("y", "y")))
        self.assertEqual(wrong_at(put_at, grammar, tree, 2, tree), 2)
        self.assertEqual(put_at(grammar, tree, 1, tree)[0], ("p", "p", "q", "q", "q"))
        self.assertEqual(put_at(grammar, tree, 0, tree), tree)
        barred = (("p", "q", "p", "q", "q"), (("y", "y"), ("x", "x")) * 2 + (("y", "y"),))
        self.assertEqual(wrong_at(put_at, grammar, put_at(grammar, tree, 1, tree), 4, barred), 2)
        self.assertEqual(wrong_at(put_at, grammar, put_at(grammar, tree, 1, tree), 4, tree), 4)
        self.assertEqual(wrong_at(part_at, grammar, barred, 0), 2)

    def test_their_order(self):
        bad = (("one",), ())
        self.assertEqual(wrong_at(put_at, SUMS, bad, 9, bad), 1)
        self.assertEqual(wrong_at(part_at, SUMS, bad, 9), 1)
        with self.assertRaises(NoNode):
            put_at(SUMS, self.TREE, 9, bad)
        with self.assertRaises(NoNode):
            put_at(SUMS, self.TREE, None, None)
