"""Point 47, its first part: logs of shapes and the shapes of logs."""

import unittest
from itertools import product

from tests.brute_grammars import BARRED, NAMED, SUMS, grammar_of, nested, rows_of, shapes_up_to, some_grammars
from tongueyard.errors import NoLog
from tongueyard.logs import log_of, shape_of_log
from tongueyard.trees import is_shape

SAMPLES = list(NAMED.values()) + list(BARRED.values()) + some_grammars(9, 25)


def plain_log(tree):
    """The log of a nested tree."""
    log = []
    for part in tree[1]:
        log += [""] if isinstance(part, str) else plain_log(part)
    return log + [tree[0]]


def plain_refusal(grammar, log):
    """The number with which a log is refused, or its shape, with pieces as nested tuples."""
    pieces = []
    rows = rows_of(grammar)
    for at, deed in enumerate(log):
        if deed == "":
            pieces.append(("", ()))
            continue
        if deed not in rows:
            return at
        row = rows[deed]
        taken = [pieces.pop() for _ in row if pieces][::-1]
        fits = [name == ("" if grammar.is_kind(symbol) else symbol) for (name, _), symbol in zip(taken, row)]
        if len(taken) < len(row) or not all(fits):
            return at
        pieces.append((grammar.rule_of(deed), (deed,) + sum((shape for _, shape in taken), ())))
    if len(pieces) != 1 or pieces[0][0] != grammar.begin():
        return len(log)
    return pieces[0][1]


def told(grammar, log):
    try:
        return shape_of_log(grammar, log)
    except NoLog as refusal:
        return refusal.at


class Logs(unittest.TestCase):
    def test_there_and_back(self):
        for grammar in SAMPLES:
            for shape in shapes_up_to(grammar, 6)[:80]:
                log = log_of(grammar, shape)
                self.assertIs(type(log), list)
                self.assertEqual(log, plain_log(nested(grammar, shape)[0]))
                self.assertEqual(shape_of_log(grammar, log), shape)

    def test_by_hand(self):
        shape = ("both", "one", "leaf", "none")
        self.assertEqual(log_of(SUMS, shape), ["", "leaf", "one", "", "none", "both"])
        self.assertEqual(shape_of_log(SUMS, ["", "leaf", "one", "", "none", "both"]), shape)
        self.assertEqual(log_of(grammar_of("a: p"), ("p",)), ["p"])
        self.assertEqual(shape_of_log(grammar_of("a: p"), ["p"]), ("p",))

    def test_bars_are_not_minded(self):
        grammar = grammar_of("a: p a x a | q y", bars=(("p", 3, "p"),))
        shape = shape_of_log(grammar, ["", "q", "", "", "q", "", "", "q", "p", "p"])
        self.assertEqual(shape, ("p", "q", "p", "q", "q"))
        self.assertFalse(is_shape(grammar, shape, "yxyxy"))
        self.assertEqual(log_of(grammar, shape), ["", "q", "", "", "q", "", "", "q", "p", "p"])

    def test_all_short_logs(self):
        for grammar in SAMPLES[:24]:
            deeds = [""] + grammar.labels()[:5] + ["nil"]
            for many in range(5):
                for log in product(deeds, repeat=many):
                    self.assertEqual(told(grammar, list(log)), plain_refusal(grammar, log), (grammar.rules(), log))

    def test_logs_with_one_deed_otherwise(self):
        for grammar in SAMPLES:
            for shape in shapes_up_to(grammar, 6)[:12]:
                log = log_of(grammar, shape)
                for at in range(len(log) + 1):
                    for put in ([], [""], ["nil"], [grammar.labels()[0]], [grammar.labels()[-1]]):
                        for gone in (0, 1):
                            other = log[:at] + put + log[at + gone:]
                            self.assertEqual(told(grammar, other), plain_refusal(grammar, other))

    def test_where_it_is_refused(self):
        for log, at in (([], 0), ([""], 1), (["leaf"], 0), (["", "leaf"], 2), (["", "leaf", "one", ""], 4),
                        (["", "nil"], 1), (["sum"], 0), (["num"], 0), (["none", "none", "one"], 3), (["none", "one", "one"], 2),
                        (["none", "one", "", "both"], 3), (["none", "one", "none", "none", "both"], 4),
                        (["", "leaf", "one", "leaf"], 3), (["none", "one", "none", "one"], 4), ([" "], 0)):
            self.assertEqual(told(SUMS, log), at, log)

    def test_nothing_is_changed(self):
        log = ["", "leaf", "one"]
        self.assertEqual(shape_of_log(SUMS, log), shape_of_log(SUMS, log))
        self.assertEqual(log, ["", "leaf", "one"])
        log_of(SUMS, ("one", "leaf")).clear()
        self.assertEqual(log_of(SUMS, ("one", "leaf")), log)

    def test_long_ones(self):
        grammar = grammar_of("a: p x a | q a y | r")
        shape = ("p", "q") * 5000 + ("r",)
        log = log_of(grammar, shape)
        self.assertEqual(len(log), 20001)
        self.assertEqual(shape_of_log(grammar, log), shape)
