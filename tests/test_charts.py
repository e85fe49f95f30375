"""Points 55 to 58 and 60: charts of rows, against slow ones and slow searches for all shapes."""

import copy
import unittest

from tests.brute import signs
from tests.brute_grammars import BARRED, NAMED, SUMS, grammar_of, some_grammars
from tests.brute_reading import (READ, all_rows, barren_rules, begun_by, slow_chart, slow_shapes, texts_up_to)
from tongueyard.charts import Chart
from tongueyard.errors import Barred, NoPlace
from tongueyard.goingon import going_on
from tongueyard.grammars import END, Grammar
from tongueyard.reading import dead_paper, nth_shape, only_shape, place_of_shape, reading_paper

SAMPLES = list(NAMED.values())[1:] + list(READ.values()) + some_grammars(31, 40)
SKIPS = [("x", signs("x"), False), ("gap", signs(" "), True), ("y", signs("y"), False)]


class Facts(unittest.TestCase):
    def test_against_a_slow_chart(self):
        for grammar in SAMPLES:
            for row in all_rows(4):
                wanted = tuple(sorted(slow_chart(grammar, row)))
                chart = Chart(grammar, list(row))
                self.assertEqual(chart.facts(), wanted)
                self.assertEqual(len(chart), len(wanted))

    def test_by_hand(self):
        chart = Chart(SUMS, ["num", "plus"])
        self.assertIn(("both", 2, 0, 2), chart.facts())
        self.assertIn(("both", 3, 0, 2), chart.facts())
        self.assertNotIn(("leaf", 1, 2, 2), chart.facts())
        self.assertEqual(Chart(grammar_of("a: p x"), []).facts(), (("p", 0, 0, 0),))
        self.assertEqual(Chart(grammar_of("a: p x"), ["x"]).facts(), (("p", 0, 0, 0), ("p", 1, 0, 1)))
        self.assertEqual(Chart(grammar_of("a: z b | y\n b: x"), []).facts(),
                         (("x", 0, 0, 0), ("y", 0, 0, 0), ("z", 0, 0, 0), ("z", 1, 0, 0)))

    def test_only_clean_alternatives_count(self):
        for name in ("unclean", "none"):
            grammar = READ[name]
            labels = [fact[0] for row in all_rows(4) for fact in Chart(grammar, list(row)).facts()]
            self.assertFalse(set(labels) & {"p", "s", "t", "u"})

    def test_texts_that_are_no_kinds_stand_nowhere(self):
        grammar = Grammar(SKIPS, [("a", [("p", ("x", "a")), ("q", ("b",))]), ("b", [("r", ("y",))])])
        for strange in ("", "gap", "z", "a", "b", "p", ".", "X", "x "):
            for ahead in (["x"] * many for many in range(3)):
                chart = Chart(grammar, ahead + [strange, "y"])
                self.assertEqual(chart.facts(), Chart(grammar, ahead).facts())
                self.assertEqual((chart.reads(), chart.bad(), chart.how_many()), (False, len(ahead), 0))
                self.assertEqual(chart.next_kinds(len(ahead)), ["x", "y"])

    def test_equal_len_repr(self):
        one = Chart(SUMS, ["num", "plus"])
        self.assertTrue(one == Chart(SUMS, ["num", "plus"]) and not one != Chart(SUMS, ["num", "plus"]))
        self.assertFalse(one == Chart(SUMS, ["num"]) or one == one.facts() or one == ["num", "plus"])
        # The same facts, but of another row.
        self.assertEqual(Chart(SUMS, ["plus", "z"]).facts(), Chart(SUMS, ["plus", "y"]).facts())
        self.assertNotEqual(Chart(SUMS, ["plus", "z"]), Chart(SUMS, ["plus", "y"]))
        self.assertNotEqual(Chart(grammar_of("a: p x"), ["x"]), Chart(grammar_of("a: q x"), ["x"]))
        self.assertEqual(Chart(grammar_of("a: p x"), ["x"]), Chart(grammar_of("a: p x\n b: q y"), ["x"]))
        self.assertEqual(repr(one), "Chart(['num', 'plus'])")
        self.assertEqual(repr(Chart(SUMS, [])), "Chart([])")
        self.assertEqual(len(one), len(one.facts()))

    def test_what_is_handed_in_stays_and_is_kept_as_a_copy(self):
        row = ["num", "plus"]
        chart = Chart(SUMS, row)
        told = copy.deepcopy((chart.facts(), chart.next_kinds(1), repr(chart), chart.bad(), chart.how_many()))
        self.assertEqual(row, ["num", "plus"])
        row.append("num")
        chart.next_kinds(1).append("z")
        self.assertEqual((chart.facts(), chart.next_kinds(1), repr(chart), chart.bad(), chart.how_many()), told)

    def test_bars_are_refused_ahead_of_all(self):
        for grammar in BARRED.values():
            for call in (Chart, reading_paper, dead_paper, going_on, only_shape, lambda grammar, row: nth_shape(grammar, row, -1),
                         lambda grammar, row: place_of_shape(grammar, row, ())):
                with self.assertRaises(Barred) as caught:
                    call(grammar, ["z"])
                self.assertEqual(caught.exception.label, grammar.bars()[0][0])


class Stops(unittest.TestCase):
    """Texts of at most eight kinds tell what may stand in rows of at most three, in these small grammars."""

    def test_against_a_slow_search(self):
        for grammar in list(READ.values()) + [NAMED["flat"], NAMED["self"], NAMED["nullable"], NAMED["half"]]:
            texts = texts_up_to(grammar, 8)
            for row in all_rows(3):
                chart = Chart(grammar, list(row))
                self.assertEqual(chart.reads(), row in texts)
                last = max([at for at in range(len(row) + 1) if any(text[:at] == row[:at] for text in texts)], default=0)
                self.assertEqual(chart.bad(), None if row in texts else last)
                for at in range(last + 1):
                    self.assertEqual(chart.next_kinds(at), begun_by(grammar, texts, row[:at]))

    def test_no_place(self):
        chart = Chart(SUMS, ["num", "num", "plus"])
        self.assertEqual(chart.bad(), 1)
        self.assertEqual(chart.next_kinds(0), [END, "num", "plus"])
        self.assertEqual(chart.next_kinds(1), [END, "plus"])
        for place in (2, 3, 4, -1, 10 ** 20):
            with self.assertRaises(NoPlace) as caught:
                chart.next_kinds(place)
            self.assertEqual(caught.exception.place, place)
        read = Chart(SUMS, ["num"])
        self.assertEqual((read.reads(), read.bad(), read.next_kinds(1)), (True, None, [END, "plus"]))
        self.assertRaises(NoPlace, read.next_kinds, 2)

    def test_without_a_text(self):
        for row in ([], ["x"], ["z", "x"]):
            chart = Chart(READ["none"], row)
            self.assertEqual((chart.reads(), chart.bad(), chart.facts(), chart.how_many()), (False, 0, (), 0))
            self.assertEqual(chart.next_kinds(0), [])
            self.assertRaises(NoPlace, chart.next_kinds, 1)
            self.assertEqual(len(chart), 0)

    def test_facts_up_to_the_stop_hang_on_the_kinds_ahead_alone(self):
        for grammar in SAMPLES:
            for row in all_rows(3):
                chart = Chart(grammar, list(row))
                place = len(row) if chart.bad() is None else chart.bad()
                for rest in (["x"], ["y", "x"], ["z"]):
                    other = Chart(grammar, list(row[:place]) + rest)
                    self.assertEqual([fact for fact in other.facts() if fact[3] <= place],
                                     [fact for fact in chart.facts() if fact[3] <= place])

    def test_forty_kinds(self):
        row = ["num", "plus"] * 19 + ["num"]
        chart = Chart(SUMS, row)
        self.assertEqual((chart.reads(), chart.bad(), chart.how_many(), chart.next_kinds(39)), (True, None, 1, [END, "plus"]))
        chart = Chart(SUMS, row + ["num"])
        self.assertEqual((chart.reads(), chart.bad(), chart.how_many()), (False, 39, 0))
        chart = Chart(READ["amb"], ["x"] * 40)
        self.assertTrue(chart.reads())
        # As many as there are trees of forty forks.
        catalan = 1
        for at in range(40):
            catalan = catalan * 2 * (2 * at + 1) // (at + 2)
        self.assertEqual(chart.how_many(), catalan)
        self.assertEqual(Chart(READ["right"], ["x"] * 40).how_many(), 1)
        self.assertEqual(Chart(READ["left"], ["x"] * 40).how_many(), 1)


class HowMany(unittest.TestCase):
    def test_against_all_shapes(self):
        for grammar in SAMPLES:
            for row in all_rows(4):
                shapes = slow_shapes(grammar, row)
                chart = Chart(grammar, list(row))
                self.assertEqual(chart.how_many(), None if shapes is None else len(shapes))
                self.assertEqual(chart.reads(), shapes != [])

    def test_barren_rules_are_known_to_the_search(self):
        self.assertEqual(barren_rules(READ["unclean"]), ["d"])

    def test_endless_ones_by_hand(self):
        self.assertEqual([Chart(READ["apart"], row).how_many() for row in (["x", "x"], ["y"], ["y", "y"], [], ["x"])],
                         [None, None, None, 0, 0])
        self.assertEqual([Chart(NAMED["self"], row).how_many() for row in ([], ["x"], ["y"])], [None, None, 0])
        self.assertEqual(Chart(grammar_of("a: p b | q x a x\n b: r b y | s"), ["x", "x"]).how_many(), 1)
