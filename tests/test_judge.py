"""Points 45 to 47: anything as paper, papers of trees, of two shapes, of endless ones, and of clashes."""

import copy
import unittest

from tests.bent import ANYTHING, check_form, parts_of, with_part
from tests.brute_grammars import (BARRED, NAMED, SUMS, grammar_of, is_plain_shape, nested, rows_of, shapes_up_to,
                                  some_grammars, spelled_plainly)
from tests.brute_reading import READ, SlowShapes, all_rows, rows_by_name, slow_shapes
from tests.test_logs import plain_log
from tongueyard.errors import Clash, TooMany
from tongueyard.judge import lets_by
from tongueyard.known import known_paper, ring
from tongueyard.mends import mend_paper
from tongueyard.mendtables import nofewer_paper
from tongueyard.reading import dead_paper, reading_paper
from tongueyard.tables import table_of
from tongueyard.twice import twice
from tongueyard.wordtables import word_paper, word_table

SAMPLES = list(NAMED.values()) + list(READ.values()) + some_grammars(41, 30)
WORDS = "tree two endless clash none dead one words table known worth orders round mend nofewer led".split()


class Anything(unittest.TestCase):
    def test_anything_as_paper(self):
        for grammar in (SUMS, READ["amb"], READ["none"], BARRED["sums"]):
            for thing in ANYTHING:
                self.assertIs(lets_by(grammar, thing), False)
                for word in WORDS + ["", "Tree", "trees"]:
                    for paper in ((word,), (word, thing), (word, thing, thing), (word, (), thing), (word, thing, ()),
                                  (word, thing, thing, thing), (word, (), (), thing), (word, (), (), (), thing),
                                  (word, thing, thing, thing, thing), (word,) + (thing,) * 5, (word,) + (thing,) * 6):
                        told = lets_by(grammar, paper)
                        self.assertIs(type(told), bool)
                        if not told:
                            continue
                        # Of the grammars here these alone may hold with so little in them.
                        self.assertTrue(grammar == READ["none"] and word in ("none", "dead", "one", "known"), paper)

    def test_words_that_are_none(self):
        shape = ("one", "leaf")
        self.assertTrue(lets_by(SUMS, ("tree", ("num",), shape)))
        for word in ("Tree", "", "trees", None, b"tree", ("tree",), 0, "two", "none"):
            self.assertFalse(lets_by(SUMS, (word, ("num",), shape)))

    def test_what_is_handed_in_stays(self):
        for grammar in (SUMS, READ["right"]):
            papers = [("table", table_of(grammar)), known_paper(grammar), twice(grammar)]
            for paper in papers:
                kept = copy.deepcopy(paper)
                self.assertTrue(lets_by(grammar, paper))
                self.assertEqual(paper, kept)
                self.assertTrue(lets_by(grammar, paper))

    def test_grammars_with_bars(self):
        grammar = grammar_of("a: p a x | q b\n b: r | s y", bars=(("p", 1, "p"),))
        plain = grammar_of("a: p a x | q b\n b: r | s y")
        row = ["x", "x"]
        papers = [known_paper(plain), ("table", table_of(plain)), twice(plain, most=1), mend_paper(plain, row),
                  nofewer_paper(plain, row), reading_paper(plain, ["y", "y"]), dead_paper(plain, ["y", "y"]),
                  ("orders", ((), ()), tuple((label, ((),) * len([s for s in plain.row_of(label) if s in "ab"]), ())
                                             for label in plain.labels()))]
        for paper in papers:
            self.assertTrue(lets_by(plain, paper), paper[0])
            self.assertFalse(lets_by(grammar, paper), paper[0])
        kinds = grammar.kinds()
        for paper in (("tree", ("x",), ("p", "q", "r")), ("words", word_table(kinds), word_paper(kinds)),
                      ("worth", ((("n", "up", "number", ("b",)),), (("r", 0, "n", ("number", 1)), ("s", 0, "n", ("number", 2)))),
                       (("q", "r"), ()), (), ((1, "n", 1),))):
            self.assertTrue(lets_by(grammar, paper), paper[0])
        self.assertFalse(lets_by(grammar, ("tree", ("x", "x"), ("p", "p", "q", "r"))))
        self.assertTrue(lets_by(plain, ("tree", ("x", "x"), ("p", "p", "q", "r"))))


class Trees(unittest.TestCase):
    def test_against_a_plain_walk(self):
        for grammar in SAMPLES + list(BARRED.values()):
            for shape in shapes_up_to(grammar, 5)[:25]:
                row = tuple(spelled_plainly(grammar, shape))
                self.assertTrue(lets_by(grammar, ("tree", row, shape)))
                check = [(row[:at] + row[at + 1:], shape) for at in range(len(row))]
                check += [(row, shape[:at] + shape[at + 1:]) for at in range(len(shape))]
                check += [(row + (kind,), shape) for kind in ("x", "z", "a", ".", "")]
                check += [(row, shape + shape[-1:]), (row, shape[::-1]), (row[::-1], shape)]
                check += [(row, shape[:at] + (label,) + shape[at + 1:]) for at in range(len(shape))
                          for label in list(rows_of(grammar)) + ["z", ""]]
                for kinds, other in check:
                    wanted = is_plain_shape(grammar, other, kinds)
                    self.assertEqual(lets_by(grammar, ("tree", kinds, other)), wanted, (kinds, other))

    def test_bars_broken_and_kept(self):
        for name, grammar in BARRED.items():
            plain = grammar_of("\n".join("%s: %s" % (rule, " | ".join(" ".join((label,) + row) for label, row in rows))
                                         for rule, rows in grammar.rules()), begin=grammar.begin())
            broken = 0
            for shape in shapes_up_to(plain, 6):
                row = tuple(spelled_plainly(plain, shape))
                kept = is_plain_shape(grammar, shape, row)
                self.assertEqual(lets_by(grammar, ("tree", row, shape)), kept)
                self.assertTrue(lets_by(plain, ("tree", row, shape)))
                broken += not kept
            self.assertGreater(broken, 0, name)

    def test_brackets_some_hundreds_deep(self):
        grammar = grammar_of("a: p x a y | q")
        for deep in (300, 5000):
            row, shape = ("x",) * deep + ("y",) * deep, ("p",) * deep + ("q",)
            self.assertTrue(lets_by(grammar, ("tree", row, shape)))
            self.assertFalse(lets_by(grammar, ("tree", row, shape[1:])))
            self.assertFalse(lets_by(grammar, ("tree", row[1:], shape)))
            self.assertFalse(lets_by(grammar, ("two", row, shape, shape)))

    def test_forms(self):
        check_form(self, SUMS, ("tree", ("num", "plus", "num"), ("both", "one", "leaf", "leaf")))
        check_form(self, READ["amb"], ("two", ("x", "x"), ("p", "p", "r", "r", "r"), ("p", "r", "p", "r", "r")))


class Two(unittest.TestCase):
    def test_against_all_shapes(self):
        for grammar in SAMPLES:
            for row in all_rows(3):
                shapes = slow_shapes(grammar, row) or []
                for one in shapes[:4]:
                    for other in shapes[:4]:
                        self.assertEqual(lets_by(grammar, ("two", row, one, other)), one != other)
                        self.assertFalse(lets_by(grammar, ("two", row + ("x",), one, other)))
                        self.assertFalse(lets_by(grammar, ("two", row, one, other + ("z",))))

    def test_with_bars(self):
        grammar = grammar_of("a: p a x a | q y | r", bars=(("p", 1, "p"),))
        one, other = ("p", "p", "r", "r", "r"), ("p", "r", "p", "r", "r")
        self.assertTrue(lets_by(READ["amb"], ("two", ("x", "x"), one, other)))
        self.assertFalse(lets_by(grammar, ("two", ("x", "x"), one, other)))
        self.assertTrue(lets_by(grammar_of("a: p b | q b\n b: r x | s", bars=(("p", 1, "s"),)),
                                ("two", ("x",), ("p", "r"), ("q", "r"))))


def plain_steps(grammar, label, place):
    """Whether at a place of a label a name stands and all else there comes to no words."""
    row = rows_of(grammar)[label]
    names = rows_by_name(grammar, 0)
    return (1 <= place <= len(row) and row[place - 1] in names
            and all(() in names.get(symbol, []) for at, symbol in enumerate(row) if at != place - 1))


class Endless(unittest.TestCase):
    def plain(self, grammar, kinds, shape, node, found):
        rows = rows_of(grammar)
        homes = {label: name for name, alternatives in grammar.rules() for label, _ in alternatives}
        if not is_plain_shape(grammar, shape, kinds) or not 0 <= node < len(shape) or not found:
            return False
        if not all(label in rows and plain_steps(grammar, label, place) for label, place in found):
            return False
        led = [rows[label][place - 1] for label, place in found]
        names = [homes[label] for label, _ in found]
        return names[0] == homes[shape[node]] and led == names[1:] + names[:1]

    def test_rings_of_grammars(self):
        seen = 0
        for grammar in SAMPLES + some_grammars(42, 60):
            found = ring(grammar)
            if found is None:
                continue
            homes = {label: name for name, alternatives in grammar.rules() for label, _ in alternatives}
            for shape in shapes_up_to(grammar, 5)[:12]:
                row = tuple(spelled_plainly(grammar, shape))
                for node in range(-1, len(shape) + 1):
                    turns = [tuple(found[at:] + found[:at]) for at in range(len(found))]
                    turns += [turns[0] * 2, turns[0] + turns[0][:1], turns[0][::-1], (), turns[0][1:]]
                    turns += [((label, place + more),) + turns[0][1:] for label, place in found[:1] for more in (-1, 1)]
                    for turn in turns:
                        wanted = self.plain(grammar, row, shape, node, turn)
                        self.assertEqual(lets_by(grammar, ("endless", row, shape, node, turn)), wanted)
                        seen += wanted
                        if wanted:
                            self.assertEqual(homes[turn[0][0]], homes[shape[node]])
                            self.assertIn(homes[shape[node]], SlowShapes(grammar, row).ringed())
        self.assertGreater(seen, 50)

    def test_by_hand(self):
        grammar = grammar_of("a: p b c | q x\n b: r | s a | t y\n c: u | v x")
        paper = ("endless", ("x",), ("q",), 0, (("p", 1), ("s", 1)))
        self.assertTrue(lets_by(grammar, paper))
        check_form(self, grammar, paper)
        for ring_of in ((("p", 1),), (("p", 2), ("s", 1)), (("s", 1), ("p", 1)), (("p", 1), ("r", 1)), (("p", 1), ("t", 1)),
                        (("p", 0), ("s", 1)), (("p", 3), ("s", 1)), (("p", 1), ("s", 1), ("p", 1)), (), (("z", 1), ("s", 1))):
            self.assertFalse(lets_by(grammar, paper[:4] + (ring_of,)))
        self.assertTrue(lets_by(grammar, paper[:4] + (paper[4] * 2,)))
        self.assertTrue(lets_by(grammar, ("endless", ("x",), ("p", "s", "q", "u"), 1, (("s", 1), ("p", 1)))))
        # Another symbol of the row comes to words.
        other = grammar_of("a: p b c | q x\n b: r | s a | t y\n c: v x")
        self.assertFalse(lets_by(other, paper))


def alike_up_to(one, other):
    """How many words are among the deeds in which two logs are alike."""
    words = 0
    for deed, with_it in zip(one, other):
        if deed != with_it:
            break
        words += deed == ""
    return words


def plain_clash(grammar, one, other, at):
    for kinds, shape in (one, other):
        if not is_plain_shape(grammar, shape, kinds):
            return False
    logs = [plain_log(nested(grammar, shape)[0]) for _, shape in (one, other)]
    return logs[0] != logs[1] and at == alike_up_to(*logs) and one[0][:at + 1] == other[0][:at + 1]


class Clashes(unittest.TestCase):
    def test_against_a_plain_walk(self):
        seen = 0
        for grammar in SAMPLES + list(BARRED.values()):
            trees = [(tuple(spelled_plainly(grammar, shape)), shape) for shape in shapes_up_to(grammar, 5)[:14]]
            for one in trees:
                for other in trees:
                    for at in range(-1, 4):
                        wanted = plain_clash(grammar, one, other, at)
                        self.assertEqual(lets_by(grammar, ("clash", one, other, at)), wanted)
                        seen += wanted
        self.assertGreater(seen, 100)

    def test_told_ones_bent(self):
        seen = 0
        for grammar in SAMPLES + some_grammars(43, 60):
            try:
                table_of(grammar)
            except TooMany:
                continue
            except Clash as clash:
                paper = ("clash", clash.one, clash.other, clash.at)
                self.assertTrue(lets_by(grammar, paper))
                self.assertTrue(lets_by(grammar, ("clash", clash.other, clash.one, clash.at)))
                for other in (clash.at + 1, clash.at - 1, -1):
                    self.assertFalse(lets_by(grammar, paper[:3] + (other,)))
                self.assertFalse(lets_by(grammar, ("clash", clash.one, clash.one, clash.at)))
                seen += 1
                if seen < 4:
                    check_form(self, grammar, paper)
        self.assertGreater(seen, 20)

    def test_by_hand(self):
        grammar = grammar_of("a: p b x | q c y\n b: r x\n c: s x")
        one, other = (("x", "x"), ("p", "r")), (("x", "y"), ("q", "s"))
        # Behind the first word the next ones differ.
        for at in range(-1, 3):
            self.assertFalse(lets_by(grammar, ("clash", one, other, at)))
        grammar = grammar_of("a: p b x x | q c x y\n b: r x\n c: s x")
        one, other = (("x", "x", "x"), ("p", "r")), (("x", "x", "y"), ("q", "s"))
        self.assertEqual([lets_by(grammar, ("clash", one, other, at)) for at in range(-1, 3)],
                         [False, False, True, False])
        # Both end: no kind is next to either.
        grammar = grammar_of("a: p b | q c\n b: r x\n c: s x")
        one, other = (("x",), ("p", "r")), (("x",), ("q", "s"))
        self.assertEqual([lets_by(grammar, ("clash", one, other, at)) for at in range(3)], [False, True, False])
        # One is the beginning of the other one, but not so far as its next word.
        grammar = grammar_of("a: p x | q x y")
        self.assertFalse(lets_by(grammar, ("clash", (("x",), ("p",)), (("x", "y"), ("q",)), 1)))

    def test_deep_ones(self):
        grammar = grammar_of("a: p x a y | q | r")
        deep = 400
        row = ("x",) * deep + ("y",) * deep
        one, other = (row, ("p",) * deep + ("q",)), (row, ("p",) * deep + ("r",))
        self.assertTrue(lets_by(grammar, ("clash", one, other, deep)))
        self.assertFalse(lets_by(grammar, ("clash", one, other, deep + 1)))
        self.assertTrue(lets_by(grammar, ("two", row, one[1], other[1])))


class NeverBoth(unittest.TestCase):
    def test_a_table_and_two_shapes_or_a_clash(self):
        for grammar in SAMPLES:
            ambiguous = any((shapes := slow_shapes(grammar, row)) is None or len(shapes) > 1 for row in all_rows(3))
            try:
                table = table_of(grammar)
            except (Clash, TooMany):
                continue
            self.assertFalse(ambiguous)
            self.assertTrue(lets_by(grammar, ("table", table)))


class Bent(unittest.TestCase):
    def test_parts_are_found(self):
        self.assertEqual(with_part(("a", ("b", {"c": (1,)})), (1, 1, "c", 0), 2), ("a", ("b", {"c": (2,)})))
        self.assertEqual(len(list(parts_of(("a", ("b", {"c": (1,)}))))), 7)
