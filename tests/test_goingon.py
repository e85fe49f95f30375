"""Point 59: texts of the fewest kinds that begin with a row."""

import unittest
from itertools import permutations

from tests.brute_grammars import NAMED, SUMS, grammar_of, some_grammars
from tests.brute_reading import READ, all_rows, texts_up_to
from tongueyard.charts import Chart
from tongueyard.errors import NoReading
from tongueyard.goingon import going_on
from tongueyard.grammars import END

SAMPLES = list(NAMED.values())[1:] + list(READ.values()) + some_grammars(33, 40)


class Fewest(unittest.TestCase):
    def test_against_a_slow_search(self):
        for grammar in SAMPLES:
            texts = texts_up_to(grammar, 7)
            for row in all_rows(3):
                ahead = [text for text in texts if text[:len(row)] == row]
                chart = Chart(grammar, list(row))
                if chart.bad() is not None and chart.bad() < len(row) or len(chart) == 0:
                    self.assertEqual(ahead, [])
                    with self.assertRaises(NoReading) as caught:
                        going_on(grammar, list(row))
                    self.assertEqual((caught.exception.at, caught.exception.may_kinds),
                                     (chart.bad(), chart.next_kinds(chart.bad())))
                    continue
                told = going_on(grammar, list(row))
                self.assertIs(type(told), list)
                self.assertEqual(tuple(told[:len(row)]), row)
                self.assertTrue(Chart(grammar, told).reads())
                if ahead:
                    self.assertEqual(len(told), len(ahead[0]))
                else:
                    self.assertGreater(len(told), 7)

    def test_one_more_than_the_fewest_of_those_with_one_kind_more(self):
        for grammar in SAMPLES:
            for row in all_rows(2):
                chart = Chart(grammar, list(row))
                if len(chart) == 0 or chart.bad() not in (None, len(row)):
                    continue
                lacks = len(going_on(grammar, list(row))) - len(row)
                if chart.reads():
                    self.assertEqual(lacks, 0)
                else:
                    behind = [len(going_on(grammar, list(row) + [kind])) - len(row) - 1
                              for kind in chart.next_kinds(len(row)) if kind != END]
                    self.assertEqual(lacks, 1 + min(behind))

    def test_by_hand(self):
        self.assertEqual(going_on(SUMS, ["num", "plus"]), ["num", "plus"])
        grammar = grammar_of("a: p x b y | q x c\n b: r b b x | s y y\n c: t c y | u y y y y y y")
        self.assertEqual(going_on(grammar, ["x"]), ["x", "y", "y", "y"])
        self.assertEqual(going_on(grammar, ["x", "y", "y", "y", "y"]), ["x"] + ["y"] * 6)
        self.assertEqual(going_on(grammar, ["x", "y", "y", "x"][:3]), ["x", "y", "y", "y"])
        for row, at, may in ((["y"], 0, ["x"]), (["x", "z"], 1, ["y"]), (["x", "y", "x", "y"], 2, ["y"]), ([""], 0, ["x"])):
            with self.assertRaises(NoReading) as caught:
                going_on(grammar, row)
            self.assertEqual((caught.exception.at, caught.exception.may_kinds), (at, may))
        with self.assertRaises(NoReading) as caught:
            going_on(READ["none"], [])
        self.assertEqual((caught.exception.at, caught.exception.may_kinds), (0, []))

    def test_the_fewest_of_several_surroundings(self):
        for rows in ("a: p b y y y | q b", "a: p b | q b y y y", "a: p b y y | q c | r b y\n c: u b | v b x x",
                     "a: p c c c | q c | r x\n c: s b | t c y y"):
            grammar = grammar_of(rows + "\n b: z x x")
            texts = texts_up_to(grammar, 8)
            for row in (["x"], ["x", "x"], ["x", "x", "y"]):
                ahead = [text for text in texts if text[:len(row)] == tuple(row)]
                if ahead:
                    self.assertEqual(len(going_on(grammar, row)), len(ahead[0]))

    def test_surroundings_that_come_late(self):
        for order in permutations(["p b y y y y", "q c x y", "s d y", "u e"]):
            for rules in permutations(["b: r x x", "c: v b y", "d: t c", "e: w d"]):
                grammar = grammar_of("a: %s\n %s" % (" | ".join(order), "\n".join(rules)))
                texts = texts_up_to(grammar, 7)
                for row in (("x",), ("x", "x")):
                    fewest = min(len(text) for text in texts if text[:len(row)] == row)
                    self.assertEqual(len(going_on(grammar, list(row))), fewest)

    def test_what_is_told_may_be_handed_in(self):
        rows = ["a%s: l%s %s" % ("bcdef"[at], "bcdef"[at], " ".join(["a" + "bcdefg"[at + 1]] * 4)) for at in range(5)]
        grammar = grammar_of("\n".join(rows + ["ag: m x y"]))
        told = going_on(grammar, ["x"])
        self.assertEqual(len(told), 2 * 4 ** 5)
        self.assertEqual(going_on(grammar, told), told)
        self.assertEqual(going_on(grammar, told[:-1]), told)
        chart = Chart(grammar, told)
        self.assertEqual((chart.reads(), chart.how_many()), (True, 1))
        row = ["x"]
        told = going_on(grammar, row)
        told.append("y")
        self.assertEqual((row, len(going_on(grammar, row))), (["x"], 2 * 4 ** 5))
