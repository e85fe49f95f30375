"""Points 61 to 63 and 66: shapes by their numbers, only ones, refusals in their order, papers of what isn't read."""

import unittest

from tests.brute_grammars import NAMED, SUMS, grammar_of, rows_of, some_grammars
from tests.brute_reading import READ, SlowShapes, all_rows, renamed, slow_chart, slow_shapes, turned
from tongueyard.charts import Chart
from tongueyard.errors import Many, NoReading, NoShape, Ringed
from tongueyard.grammars import Grammar
from tongueyard.judge import lets_by
from tongueyard.reading import dead_paper, nth_shape, only_shape, place_of_shape, reading_paper
from tongueyard.trees import is_shape, spelled_by

SAMPLES = list(NAMED.values())[1:] + list(READ.values()) + some_grammars(32, 40)


def refused(call, *arguments):
    """The name and the fields of a refusal, or what is told."""
    try:
        return call(*arguments)
    except (NoReading, Ringed, Many, NoShape) as refusal:
        return (type(refusal).__name__, *vars(refusal).values())


class Numbers(unittest.TestCase):
    def test_against_all_shapes(self):
        for grammar in SAMPLES:
            for row in all_rows(4):
                shapes = slow_shapes(grammar, row)
                row = list(row)
                if shapes is None:
                    name = [name for name, _ in grammar.rules() if name in SlowShapes(grammar, row).ringed()][0]
                    for ask in (refused(nth_shape, grammar, row, 0), refused(nth_shape, grammar, row, -1),
                                refused(place_of_shape, grammar, row, ()), refused(only_shape, grammar, row)):
                        self.assertEqual(ask, ("Ringed", name))
                    continue
                self.assertEqual([nth_shape(grammar, row, number) for number in range(len(shapes))], shapes)
                self.assertEqual([place_of_shape(grammar, row, shape) for shape in shapes], list(range(len(shapes))))
                for number in (-1, -len(shapes), len(shapes), 10 ** 29, -10 ** 29):
                    if not 0 <= number < len(shapes):
                        self.assertEqual(refused(nth_shape, grammar, row, number), ("NoShape", len(shapes)))

    def test_shapes_that_are_none_of_the_row(self):
        for grammar in SAMPLES:
            for row in all_rows(3):
                shapes = slow_shapes(grammar, row)
                if shapes is None:
                    continue
                for other in all_rows(2):
                    for shape in slow_shapes(grammar, other) or []:
                        if other != row:
                            self.assertEqual(refused(place_of_shape, grammar, list(row), shape), ("NoShape", len(shapes)))
                for shape in [(), ("z",), ("", "."), ("a",)] + [shape + shape for shape in shapes] + [
                        shape[:-1] for shape in shapes]:
                    self.assertEqual(refused(place_of_shape, grammar, list(row), shape), ("NoShape", len(shapes)))

    def test_great_numbers(self):
        row = ["x"] * 40
        many = Chart(READ["amb"], row).how_many()
        self.assertGreater(many, 10 ** 20)
        for number in (0, 1, 2, many // 3, many // 2, many - 2, many - 1):
            shape = nth_shape(READ["amb"], row, number)
            self.assertTrue(is_shape(READ["amb"], shape, row))
            self.assertEqual(place_of_shape(READ["amb"], row, shape), number)
        self.assertEqual(refused(nth_shape, READ["amb"], row, many), ("NoShape", many))
        labels = list(rows_of(READ["amb"]))
        shapes = [[labels.index(label) for label in nth_shape(READ["amb"], row, number)]
                  for number in (0, 1, many // 2, many - 1)]
        self.assertEqual(sorted(shapes), shapes)

    def test_the_first_name_in_the_grammars_order(self):
        grammar = grammar_of("a: p c x | q b y | r c b\n b: s c | t\n c: u b | v y", begin="a")
        self.assertEqual(refused(nth_shape, grammar, ["y", "x"], 0), ("Ringed", "b"))
        self.assertEqual(refused(nth_shape, grammar, ["x"], 0), ("Ringed", "b"))
        self.assertEqual(refused(nth_shape, grammar, ["x", "x"], 0), ("NoShape", 0))
        # The beginning stands beneath itself in no shape, and what isn't read has no ring.
        self.assertEqual(refused(only_shape, NAMED["ring"], ["y"]), ("Ringed", "a"))
        self.assertEqual(refused(only_shape, READ["apart"], ["x", "x"]), ("Ringed", "b"))
        self.assertEqual(refused(only_shape, READ["apart"], ["y"]), ("Ringed", "c"))
        self.assertEqual(refused(only_shape, NAMED["ring"], []), ("NoReading", 0, ["x", "y"]))


class Only(unittest.TestCase):
    def test_against_all_shapes(self):
        seen = set()
        for grammar in SAMPLES:
            for row in all_rows(4):
                shapes = slow_shapes(grammar, row)
                told = refused(only_shape, grammar, list(row))
                if shapes == []:
                    chart = Chart(grammar, list(row))
                    self.assertEqual(told, ("NoReading", chart.bad(), chart.next_kinds(chart.bad())))
                elif shapes is None:
                    self.assertEqual(told[0], "Ringed")
                elif len(shapes) == 1:
                    self.assertEqual(told, shapes[0])
                else:
                    self.assertEqual(told, ("Many", shapes[0], shapes[1]))
                    self.assertTrue(lets_by(grammar, ("two", row, told[1], told[2])))
                seen.add(0 if shapes is None else min(len(shapes), 2) + 1)
        self.assertEqual(seen, {0, 1, 2, 3})

    def test_by_hand(self):
        self.assertEqual(only_shape(SUMS, ["num", "plus", "num"]), ("both", "one", "leaf", "leaf"))
        self.assertEqual(refused(only_shape, SUMS, ["num", "num"]), ("NoReading", 1, [".", "plus"]))
        self.assertEqual(refused(only_shape, READ["none"], ["x"]), ("NoReading", 0, []))
        self.assertEqual(refused(only_shape, READ["amb"], ["x", "x"]),
                         ("Many", ("p", "p", "r", "r", "r"), ("p", "r", "p", "r", "r")))


class Papers(unittest.TestCase):
    def test_just_one_of_a_shape_and_a_chart(self):
        for grammar in SAMPLES:
            language = None
            for row in all_rows(4):
                shapes = slow_shapes(grammar, row, language)
                none, dead = reading_paper(grammar, list(row)), dead_paper(grammar, list(row))
                facts = tuple(sorted(slow_chart(grammar, row)))
                if shapes == []:
                    self.assertEqual(none, ("none", row, facts))
                    self.assertTrue(lets_by(grammar, none))
                else:
                    self.assertIsNone(none)
                    self.assertFalse(lets_by(grammar, ("none", row, facts)))
                    self.assertIsNone(dead)
                if max([fact[3] for fact in facts], default=-1) < len(row):
                    self.assertEqual(dead, ("dead", row, facts))
                    self.assertTrue(lets_by(grammar, dead))
                else:
                    self.assertIsNone(dead)
                    self.assertFalse(lets_by(grammar, ("dead", row, facts)))

    def test_rows_with_texts_that_are_no_kinds(self):
        for strange in ("", "z", "a", "."):
            paper = reading_paper(SUMS, ["num", strange])
            self.assertEqual(paper[:2], ("none", ("num", strange)))
            self.assertTrue(lets_by(SUMS, paper))
            self.assertTrue(lets_by(SUMS, dead_paper(SUMS, ["num", strange])))


class Alike(unittest.TestCase):
    """Point 66."""

    def test_called_otherwise(self):
        for grammar in SAMPLES:
            names = {name: name * 2 for name in "abcdexyklmnopqrstuvw"}
            other = renamed(grammar, names)
            for row in all_rows(3):
                led = [names[kind] for kind in row]
                one, two = Chart(grammar, list(row)), Chart(other, led)
                self.assertEqual((one.reads(), one.bad(), one.how_many()), (two.reads(), two.bad(), two.how_many()))
                if one.how_many():
                    for number in range(min(3, one.how_many())):
                        self.assertEqual(tuple(names[label] for label in nth_shape(grammar, list(row), number)),
                                         nth_shape(other, led, number))

    def test_turned_round(self):
        for grammar in SAMPLES:
            for row in all_rows(4):
                self.assertEqual(Chart(grammar, list(row)).how_many(), Chart(turned(grammar), list(row[::-1])).how_many())

    def test_an_alternative_more(self):
        for grammar in SAMPLES:
            for more in ((), ("x",), ("a", "y"), ("a", "a")):
                rules = [(name, alternatives + ([("new", more)] if name == "a" else []))
                         for name, alternatives in grammar.rules()]
                if "a" not in dict(rules):
                    continue
                other = Grammar(grammar.kinds(), rules, begin=grammar.begin())
                for row in all_rows(3):
                    many, others = Chart(grammar, list(row)).how_many(), Chart(other, list(row)).how_many()
                    self.assertTrue(others is None or (many is not None and others >= many))

    def test_a_name_put_out(self):
        for grammar in SAMPLES:
            rows = rows_of(grammar)
            for label in rows:
                for at, symbol in enumerate(rows[label]):
                    if symbol not in dict(grammar.rules()):
                        continue
                    inner = dict(grammar.rules())[symbol]
                    put = [("new" + "abcdefgh"[number], rows[label][:at] + row + rows[label][at + 1:])
                           for number, (_, row) in enumerate(inner)]
                    if max(len(row) for _, row in put) > 6:
                        continue
                    rules = [(name, [one for alternative in alternatives
                                     for one in (put if alternative[0] == label else [alternative])])
                             for name, alternatives in grammar.rules()]
                    other = Grammar(grammar.kinds(), rules, begin=grammar.begin())
                    for row in all_rows(2):
                        one, two = Chart(grammar, list(row)).how_many(), Chart(other, list(row)).how_many()
                        self.assertEqual(one, two)

    def test_the_same_asked_again(self):
        for grammar in SAMPLES[:20]:
            for row in all_rows(3):
                for ask in (lambda: refused(only_shape, grammar, list(row)), lambda: reading_paper(grammar, list(row))):
                    self.assertEqual(ask(), ask())
                handed = list(row)
                refused(only_shape, grammar, handed)
                refused(nth_shape, grammar, handed, 0)
                self.assertEqual(handed, list(row))


class Told(unittest.TestCase):
    def test_shapes_are_shapes(self):
        for grammar in SAMPLES:
            for row in all_rows(3):
                if slow_shapes(grammar, row):
                    shape = nth_shape(grammar, list(row), 0)
                    self.assertIs(type(shape), tuple)
                    self.assertEqual(spelled_by(grammar, shape), list(row))
