"""Points 48 and 65: closed sets of facts, and lists of all texts with one shape each."""

import unittest

from tests.bent import check_form
from tests.brute_grammars import NAMED, SUMS, grammar_of, labels_by_rule, rows_of, some_grammars
from tests.brute_reading import READ, all_rows, clean_labels, slow_chart, slow_shapes, texts_up_to
from tongueyard.judge import lets_by
from tongueyard.known import ring
from tongueyard.twice import twice

SAMPLES = list(NAMED.values())[1:] + list(READ.values()) + some_grammars(44, 30)


def all_facts(grammar, many):
    rows = rows_of(grammar)
    return [(label, dot, first, behind) for label in rows for dot in range(len(rows[label]) + 1)
            for first in range(many + 1) for behind in range(first, many + 1)]


def is_closed(grammar, kinds, facts):
    """Whether facts are closed, condition by condition."""
    rows, labels, clean = rows_of(grammar), labels_by_rule(grammar), clean_labels(grammar)
    homes = {label: name for name in labels for label in labels[name]}
    asked = {(label, 0, 0, 0) for label in clean[grammar.begin()]}
    for label, dot, first, behind in facts:
        if dot < len(rows[label]):
            symbol = rows[label][dot]
            if symbol not in labels and kinds[behind:behind + 1] == (symbol,):
                asked.add((label, dot + 1, first, behind + 1))
            if symbol in labels:
                asked |= {(other, 0, behind, behind) for other in clean[symbol]}
                asked |= {(label, dot + 1, first, last) for other, done, start, last in facts
                          if homes[other] == symbol and done == len(rows[other]) and start == behind}
    return asked <= set(facts)


def plain(grammar, word, kinds, facts):
    rows = rows_of(grammar)
    if not is_closed(grammar, kinds, facts):
        return False
    if word == "dead":
        return all(fact[3] < len(kinds) for fact in facts)
    return not any((label, len(rows[label]), 0, len(kinds)) in facts for label in labels_by_rule(grammar)[grammar.begin()])


class Closed(unittest.TestCase):
    def test_the_least_set_turned_about_and_with_each_fact_left_out(self):
        for grammar in SAMPLES:
            for row in all_rows(3):
                facts = tuple(sorted(slow_chart(grammar, row)))
                held = {word: plain(grammar, word, row, facts) for word in ("none", "dead")}
                shapes = slow_shapes(grammar, row)
                self.assertEqual(held["none"], shapes == [])
                for word in ("none", "dead"):
                    for other in (facts, facts[::-1], facts + facts, facts[2:] + facts[:2]):
                        self.assertEqual(lets_by(grammar, (word, row, other)), held[word])
                    for at in range(len(facts)):
                        other = facts[:at] + facts[at + 1:]
                        self.assertEqual(lets_by(grammar, (word, row, other)), plain(grammar, word, row, other))
                        # In the least set no fact is there but that another one, or the beginning, asks for it.
                        self.assertFalse(lets_by(grammar, (word, row, other)))

    def test_larger_sets(self):
        held = 0
        for grammar in SAMPLES:
            for row in all_rows(2):
                facts = tuple(sorted(slow_chart(grammar, row)))
                every = all_facts(grammar, len(row))
                for more in every[::2]:
                    for word in ("none", "dead"):
                        wanted = plain(grammar, word, row, facts + (more,))
                        self.assertEqual(lets_by(grammar, (word, row, facts + (more,))), wanted)
                        held += wanted and more not in facts
        self.assertGreater(held, 50)

    def test_facts_of_alternatives_that_are_not_clean(self):
        grammar = READ["unclean"]
        facts = tuple(sorted(slow_chart(grammar, ("y", "x"))))
        self.assertTrue(lets_by(grammar, ("dead", ("y", "x"), facts)) is plain(grammar, "dead", ("y", "x"), facts))
        # They may stand there, and are never asked for.
        for more in (("p", 0, 0, 0), ("s", 0, 1, 1), ("t", 0, 0, 0)):
            self.assertEqual(lets_by(grammar, ("none", ("y",), tuple(slow_chart(grammar, ("y",))) + (more,))),
                             plain(grammar, "none", ("y",), tuple(slow_chart(grammar, ("y",))) + (more,)))
        # A whole one of a barren name counts as any other one.
        whole = (("t", 0, 0, 0), ("t", 1, 0, 0), ("t", 2, 0, 0))
        self.assertFalse(is_closed(grammar, (), whole))

    def test_facts_that_are_none(self):
        row = ("num", "num")
        facts = tuple(sorted(slow_chart(SUMS, row)))
        self.assertTrue(lets_by(SUMS, ("none", row, facts)))
        self.assertTrue(lets_by(SUMS, ("dead", row, facts)))
        for fact in (("z", 0, 0, 0), ("sum", 0, 0, 0), ("one", 2, 0, 0), ("one", -1, 0, 0), ("both", 4, 0, 1), ("one", 0, 1, 0),
                     ("one", 0, 0, 3), ("one", 0, -1, 0), ("one", 0, 3, 3), ("one", 0, 0), ("one", 0, 0, 0, 0), (), None,
                     ["one", 0, 0, 0], ("one", False, 0, 0), ("one", 0, 0.0, 0), ("one", 0, 0, True), (b"one", 0, 0, 0)):
            for word in ("none", "dead"):
                self.assertFalse(lets_by(SUMS, (word, row, facts + (fact,))), fact)
                self.assertFalse(lets_by(SUMS, (word, row, (fact,) + facts)), fact)
        check_form(self, SUMS, ("none", row, facts), 60)
        check_form(self, SUMS, ("dead", row, facts), 60)

    def test_of_no_kinds(self):
        for grammar in SAMPLES:
            facts = tuple(slow_chart(grammar, ()))
            self.assertEqual(lets_by(grammar, ("dead", (), facts)), not facts)
        self.assertTrue(lets_by(READ["none"], ("dead", (), ())))
        self.assertTrue(lets_by(READ["none"], ("none", ("x",), ())))
        self.assertTrue(lets_by(READ["none"], ("dead", ("x",), ())))
        self.assertFalse(lets_by(SUMS, ("dead", (), ())))

    def test_kinds_that_are_none_are_never_taken(self):
        grammar = grammar_of("a: p b | q a a\n b: r x")
        for strange in ("z", "", ".", "a", "b", "p", "r"):
            row = (strange, "x")
            facts = tuple(slow_chart(grammar, row))
            self.assertEqual({fact[3] for fact in facts}, {0})
            for word in ("none", "dead"):
                self.assertTrue(lets_by(grammar, (word, row, facts)))


def plain_one(grammar, lists):
    """Whether lists are just all texts in order, each with its only shape."""
    if ring(grammar) is not None or not lists:
        return False
    texts = texts_up_to(grammar, len(lists) - 1)
    for many, rows in enumerate(lists):
        wanted = []
        for row in texts:
            if len(row) == many:
                shapes = slow_shapes(grammar, row)
                if len(shapes) > 1:
                    return False
                wanted.append((row, shapes[0]))
        if list(rows) != wanted:
            return False
    return True


class One(unittest.TestCase):
    def test_told_lists_and_bent_ones(self):
        held = 0
        for grammar in SAMPLES:
            if ring(grammar) is not None:
                continue
            for most in range(5):
                told = twice(grammar, most=most)
                if told[0] == "two":
                    continue
                lists = told[1]
                self.assertTrue(plain_one(grammar, lists))
                self.assertTrue(lets_by(grammar, told))
                held += 1
                for many, rows in enumerate(lists):
                    others = [rows[:at] + rows[at + 1:] for at in range(len(rows))]
                    others += [rows + rows[:1], rows[:1] + rows] if rows else [((("x",) * many, ("p",)),)]
                    others += [rows[::-1]] if len(rows) > 1 else []
                    others += [rows[:-1] + ((rows[-1][0], rows[-1][1][::-1] + ("z",)),)] if rows else []
                    for other in others:
                        self.assertFalse(lets_by(grammar, ("one", lists[:many] + (other,) + lists[many + 1:])))
                self.assertEqual(lets_by(grammar, ("one", lists[1:])), plain_one(grammar, lists[1:]))
                self.assertEqual(lets_by(grammar, ("one", lists[::-1])), plain_one(grammar, lists[::-1]))
                self.assertEqual(lets_by(grammar, ("one", lists + ((),))), plain_one(grammar, lists + ((),)))
        self.assertGreater(held, 60)

    def test_with_another_shape_of_the_row(self):
        grammar = grammar_of("a: p x x | q y\n | r y".replace("\n", ""))
        lists = ((), ((("y",), ("q",)),), ((("x", "x"), ("p",)),))
        # Two shapes of one row are counted, whichever one stands there.
        self.assertFalse(lets_by(grammar, ("one", lists)))
        twice_told = ((), ((("y",), ("q",)), (("y",), ("r",))), ((("x", "x"), ("p",)),))
        self.assertFalse(lets_by(grammar, ("one", twice_told)))
        single = grammar_of("a: p x x | q y")
        self.assertTrue(lets_by(single, ("one", lists)))
        self.assertFalse(lets_by(single, ("one", lists[:1] + (lists[2], lists[1]))))
        check_form(self, single, ("one", lists))

    def test_rows_rise_by_the_kinds_numbers(self):
        kinds = [("y", ("signs", "y"), False), ("x", ("signs", "x"), False)]
        grammar = grammar_of("a: p x | q y", kinds=kinds)
        rows = ((("y",), ("q",)), (("x",), ("p",)))
        self.assertTrue(lets_by(grammar, ("one", ((), rows))))
        self.assertFalse(lets_by(grammar, ("one", ((), rows[::-1]))))

    def test_rings(self):
        for lists in ((), ((),), ((), (), ())):
            for grammar in SAMPLES:
                self.assertEqual(lets_by(grammar, ("one", lists)), plain_one(grammar, lists))
        grammar = grammar_of("a: p x | q y\n b: r b")
        self.assertTrue(lets_by(grammar, ("one", ((),))))
        # A ring of which no shape of the beginning has a node is none.
        self.assertTrue(lets_by(grammar_of("a: p x\n b: r b | s"), ("one", ((), ((("x",), ("p",)),)))))
        self.assertFalse(lets_by(grammar_of("a: p x b\n b: r b | s"), ("one", ((),))))
        self.assertTrue(lets_by(READ["none"], ("one", ((), (), ()))))

    def test_many_lists(self):
        grammar = grammar_of("a: p x a | q x | r b b y\n b: s | t b y y")
        told = twice(grammar, most=2)
        self.assertEqual(told[0], "one")
        right = READ["right"]
        lists = ((),) + tuple(((("x",) * many, ("p",) * (many - 1) + ("q",)),) for many in range(1, 300))
        self.assertTrue(lets_by(right, ("one", lists)))
        self.assertFalse(lets_by(right, ("one", lists + ((),))))
