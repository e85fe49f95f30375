"""Point 64: the search for a text with two shapes."""

import unittest
from itertools import permutations

from tests.brute import signs
from tests.brute_grammars import BARRED, NAMED, SUMS, grammar_of, labels_by_rule, rows_of, some_grammars
from tests.brute_reading import READ, clean_labels, rows_by_name, slow_shapes, texts_up_to
from tongueyard.errors import Barred, Ringed, TooMany
from tongueyard.grammars import Grammar
from tongueyard.judge import lets_by
from tongueyard.twice import TEXTS, twice

SAMPLES = list(NAMED.values()) + list(READ.values()) + some_grammars(52, 80)


def plain_ringed(grammar):
    """The rules that come to themselves alone in some shape of the beginning, in the grammar's order."""
    rows, labels, clean = rows_of(grammar), labels_by_rule(grammar), clean_labels(grammar)
    empty = {name for name, texts in rows_by_name(grammar, 0).items() if texts}
    standing = [grammar.begin()] if clean[grammar.begin()] else []
    for name in standing:
        standing += [part for label in clean[name] for part in rows[label] if part in labels and part not in standing]
        standing[:] = list(dict.fromkeys(standing))
    led = {(name, part) for name in standing for label in clean[name] for at, part in enumerate(rows[label])
           if part in labels and all(other in empty for other in rows[label][:at] + rows[label][at + 1:])}
    many = -1
    while len(led) > many:
        many = len(led)
        led |= {(one, last) for one, middle in led for other, last in led if middle == other}
    return [name for name in labels if (name, name) in led]


def slow_twice(grammar, most):
    lists = [[] for _ in range(most + 1)]
    many = 0
    for row in texts_up_to(grammar, most):
        shapes = slow_shapes(grammar, row)
        if len(shapes) > 1:
            return "two", row, shapes[0], shapes[1]
        lists[len(row)].append((row, shapes[0]))
        many += 1
        if many > TEXTS:
            return "many"
    return "one", tuple(map(tuple, lists))


def told(grammar, most):
    try:
        return twice(grammar, most=most)
    except TooMany as refusal:
        assert refusal.limit == TEXTS == 200
        return "many"


class Twice(unittest.TestCase):
    def test_against_a_slow_search(self):
        seen = {}
        for grammar in SAMPLES:
            ringed = plain_ringed(grammar)
            for most in (0, 1, 3, 5):
                if ringed:
                    with self.assertRaises(Ringed) as caught:
                        twice(grammar, most=most)
                    self.assertEqual(caught.exception.name, ringed[0])
                    continue
                paper = told(grammar, most)
                self.assertEqual(paper, slow_twice(grammar, most))
                seen[paper[0]] = seen.get(paper[0], 0) + 1
                if paper != "many":
                    self.assertTrue(lets_by(grammar, paper))
        self.assertGreater(min(seen["one"], seen["two"]), 20)

    def test_most_from_0_to_8(self):
        grammar = grammar_of("a: p x a | q x | r b b x\n b: s x x x")
        for most in range(9):
            paper = twice(grammar, most=most)
            self.assertEqual(paper, slow_twice(grammar, most))
            self.assertEqual(paper[0], "one" if most < 7 else "two")
        self.assertEqual(twice(grammar), twice(grammar, most=4))
        self.assertEqual(twice(grammar, most=8), ("two", ("x",) * 7, ("p",) * 6 + ("q",), ("r", "s", "s")))
        self.assertEqual(twice(grammar_of("a: p | q x"), most=0), ("one", (((((), ("p",))),),)))
        self.assertEqual(twice(grammar_of("a: p | q"), most=0), ("two", (), ("p",), ("q",)))
        self.assertEqual(twice(READ["none"], most=3), ("one", ((), (), (), ())))

    def test_the_first_one(self):
        grammar = grammar_of("a: p y y | q y y | r y x | s y x | t x y y | u x y y")
        self.assertEqual(twice(grammar), ("two", ("y", "x"), ("r",), ("s",)))
        kinds = [("y", signs("y"), False), ("x", signs("x"), False)]
        rules = grammar.rules()
        self.assertEqual(twice(Grammar(kinds, rules)), ("two", ("y", "y"), ("p",), ("q",)))
        self.assertEqual(twice(grammar, most=1), ("one", ((), ())))

    def test_surroundings_that_come_late(self):
        for order in permutations(["p b", "q c x", "s d y x", "u e"]):
            for rules in permutations(["b: r x", "c: v b y", "d: t c x x", "e: w d y y y"]):
                grammar = grammar_of("a: %s\n %s" % (" | ".join(order), "\n".join(rules)))
                self.assertEqual(told(grammar, 8), slow_twice(grammar, 8))

    def test_too_many(self):
        kinds = [(name, signs(name), False) for name in "abcdefghijklmn"]
        # Fourteen texts of one kind, 186 of two kinds: just as many as may come.
        for many, wanted in ((186, "one"), (187, "many")):
            grammar = Grammar(kinds, self.folded("abcdefghijklmn", many))
            paper = told(grammar, 2)
            self.assertEqual(paper if paper == "many" else paper[0], wanted)
            self.assertEqual(len(twice(grammar, most=1)[1][1]), 14)

    def folded(self, names, many):
        """Rules of fourteen texts of one kind and so many of two kinds, with few alternatives."""
        whole, left = divmod(many, 14)
        rules = [("z", [("z" + name, (name,)) for name in names] + [("zz", ("few", "all")), ("zy", (names[whole], "some"))]),
                 ("few", [("f" + name, (name,)) for name in names[:whole]]), ("all", [("l" + name, (name,)) for name in names]),
                 ("some", [("s" + name, (name,)) for name in names[:left]])]
        return rules if left else [("z", rules[0][1][:-1])] + rules[1:3]

    def test_two_shapes_behind_just_so_many_texts(self):
        kinds = [(name, signs(name), False) for name in "abcdefghijklmn"]
        for many, wanted in ((186, ("two", ("n", "n"))), (187, "many")):
            rules = self.folded("abcdefghijklmn", many)
            rules[0][1].extend([("ua", ("n", "n")), ("ub", ("n", "n"))])
            paper = told(Grammar(kinds, rules), 2)
            self.assertEqual(paper if paper == "many" else paper[:2], wanted)

    def test_texts_that_are_long_are_not_gone_through(self):
        kinds = [(name, signs(name), False) for name in "abcdefghijklmn"]
        rules = [("z", [("p", ("y", "y", "y", "y", "y", "y")), ("q", ("y",) * 3)]),
                 ("y", [("o" + name, (name, "x")) for name in "abcdefghijklmn"]), ("x", [("r", ("a", "b"))])]
        # The shortest text has nine kinds.
        self.assertEqual(twice(Grammar(kinds, rules), most=8), ("one", ((),) * 9))

    def test_ringed_ahead_of_too_many(self):
        kinds = [(name, signs(name), False) for name in "abcdefghijklmn"]
        rules = self.folded("abcdefghijklmn", 190) + [("void", [("v", ("void",)), ("w", ())])]
        self.assertEqual(told(Grammar(kinds, rules), 2), "many")
        rules[0][1].append(("u", ("void", "a", "a", "a", "a", "a")))
        with self.assertRaises(Ringed) as caught:
            twice(Grammar(kinds, rules), most=2)
        self.assertEqual(caught.exception.name, "void")

    def test_rings_that_stand_in_no_text(self):
        self.assertEqual(twice(grammar_of("a: p x\n b: q b | r"), most=1), ("one", ((), ((("x",), ("p",)),))))
        self.assertRaises(Ringed, twice, grammar_of("a: p x b\n b: q b | r"), most=0)
        with self.assertRaises(Ringed) as caught:
            twice(grammar_of("a: p x c | q x b\n b: r b | s\n c: t c | u"))
        self.assertEqual(caught.exception.name, "b")

    def test_bars(self):
        for grammar in BARRED.values():
            with self.assertRaises(Barred) as caught:
                twice(grammar)
            self.assertEqual(caught.exception.label, grammar.bars()[0][0])
        self.assertEqual(twice(SUMS, most=1), twice(SUMS, most=1))
