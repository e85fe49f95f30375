"""Point 95: layouts."""

import unittest

from tests.brute_grammars import NAMED, SUMS, grammar_of
from tongueyard.errors import NoLabel, NoLayout
from tongueyard.grammars import Grammar
from tongueyard.layouts import Layout

ROWS = grammar_of("a: p x x x x x | q x | r | s x x | t x x x")


class Layouts(unittest.TestCase):
    def refused(self, marks, label, grammar=ROWS):
        with self.assertRaises(NoLayout) as caught:
            Layout(grammar, marks)
        self.assertEqual(caught.exception.label, label)

    def test_marks_of_every_label(self):
        layout = Layout(ROWS, {"s": ("soft",), "t": ("in", "out"), "q": ()})
        self.assertEqual(layout.marks_of("s"), ("soft",))
        self.assertEqual(layout.marks_of("t"), ("in", "out"))
        self.assertEqual(layout.marks_of("p"), ("near",) * 4)
        self.assertEqual((layout.marks_of("q"), layout.marks_of("r")), ((), ()))
        self.assertEqual(layout.grammar, ROWS)
        for mark in ("near", "blank", "row", "soft"):
            self.assertEqual(Layout(ROWS, {"s": (mark,)}).marks_of("s"), (mark,))
        for label in ("z", "a", "x", "", "P"):
            with self.assertRaises(NoLabel) as caught:
                layout.marks_of(label)
            self.assertEqual(caught.exception.label, label)

    def test_in_and_out(self):
        for marks in (("in", "out", "in", "out"), ("in", "in", "out", "out"), ("in", "soft", "row", "out"),
                      ("near", "in", "out", "blank")):
            self.assertEqual(Layout(ROWS, {"p": marks}).marks_of("p"), marks)
        for marks in (("out", "in", "near", "near"), ("in", "out", "out", "in"), ("in", "near", "near", "near"),
                      ("in", "in", "out", "near"), ("near", "near", "near", "out"), ("in", "out", "near", "out")):
            self.refused({"p": marks}, "p")

    def test_wrong_marks_in_each_place(self):
        good = ("near", "blank", "row", "soft")
        for at in range(4):
            for wrong in ("", "nearer", "Near", None, 0, ("near",), ["near"], b"near", True):
                self.refused({"p": good[:at] + (wrong,) + good[at + 1:]}, "p")
        for wrong in (good[:3], good + ("near",), list(good), None, "near", {}, 4, "nnnn", dict.fromkeys(good)):
            self.refused({"p": wrong}, "p")
        for label, wrong in (("q", ("near",)), ("r", ("near",)), ("r", []), ("q", None), ("s", ()), ("s", ("in",)),
                             ("s", ("out",))):
            self.refused({label: wrong}, label)

    def test_the_first_one_in_the_dicts_order(self):
        for label in ("z", "a", "x", "", None, 7, ("p",), "P"):
            self.refused({label: ()}, label)
            self.refused({"q": (), label: (), "s": None}, label)
        self.refused({"t": ("in", "in"), "s": None, "z": ()}, "t")
        self.refused({"s": ("near",), "z": (), "t": None}, "z")
        self.refused({"t": None, "s": None}, "t")
        self.refused({"s": None, "t": None}, "s")

    def test_a_copy_is_kept(self):
        marks = {"s": ("soft",), "t": ("in", "out")}
        layout = Layout(ROWS, marks)
        marks["s"] = ("row",)
        del marks["t"]
        marks["z"] = ()
        self.assertEqual((layout.marks_of("s"), layout.marks_of("t")), (("soft",), ("in", "out")))

    def test_equal(self):
        layout = Layout(ROWS, {"s": ("soft",)})
        self.assertEqual(layout, Layout(ROWS, {"s": ("soft",)}))
        self.assertEqual(layout, Layout(ROWS, {"q": (), "p": ("near",) * 4, "s": ("soft",), "r": ()}))
        self.assertEqual(layout, Layout(Grammar(ROWS.kinds(), ROWS.rules()), {"s": ("soft",), "t": ("near", "near")}))
        self.assertEqual(Layout(ROWS, {}), Layout(ROWS, {"p": ("near",) * 4}))
        for other in (Layout(ROWS, {}), Layout(ROWS, {"s": ("row",)}), Layout(ROWS,
            {"s": ("soft",), "t": ("in", "out")}),
                      Layout(SUMS, {}), None, {"s": ("soft",)}, ROWS, "Layout"):
            self.assertFalse(layout == other)
            self.assertTrue(layout != other)
        self.assertNotEqual(Layout(NAMED["flat"], {}), Layout(grammar_of("a: p x y x | q", bars=(), begin="a", kinds=[
            ("x", ("signs", "x"), False), ("y", ("signs", "z"), False)]), {}))
