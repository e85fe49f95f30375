"""Point 137, its paper, with what is right by point 136: each condition broken alone."""

import unittest

from tests.bent import check_form
from tests.brute import more, signs, word
from tests.brute_grammars import NAMED, SUMS, grammar_of, nested, rows_of, shapes_up_to, some_grammars, tree_of
from tongueyard.grammars import Grammar
from tongueyard.judge import lets_by
from tongueyard.judge_bridges import led_holds

OLD = Grammar([("x", signs("x"), False), ("y", more(signs("xy")), False), ("gap", signs(" "), True)],
              [("a", [("p", ("b", "x", "a")), ("q", ("x",)), ("r", ())]), ("b", [("s", ("y", "a"))]),
               ("c", [("t", ("x",)), ("u", ())])])
NEW = Grammar([("k", more(signs("xyz")), False), ("l", word("end"), False), ("x", signs("x"), False), ("gap", signs(" "), True)],
              [("aa", [("pp", ("x", "aa", "k")), ("qq", ("x", "l")), ("rr", ("bb",)), ("rs", ("aa", "aa"))]),
               ("bb", [("ss", ("k",)), ("tt", ())])])
NAMES = {"a": "aa", "x": "x", "y": "k", "c": "bb"}
TEMPLATES = {
    "p": (("node", "pp"), ("part", 2), ("part", 3), ("within", 1, "s", 1)),
    "q": (("node", "qq"), ("part", 1), ("word", "l", "end")),
    "r": (("node", "rr"), ("node", "tt")),
}
TREE = (("p", "s", "q", "r"), (("y", "yx"), ("x", "x"), ("x", "x")))
LED = (("pp", "rr", "tt"), (("x", "x"), ("k", "yx")))


def paper(names=None, templates=None, tree=TREE, other=LED, new=NEW):
    names = NAMES if names is None else names
    templates = TEMPLATES if templates is None else templates
    return "led", new, tuple(sorted(names.items())), tuple(sorted(templates.items())), tree, other


class Right(unittest.TestCase):
    def test_by_hand(self):
        # Of p the parts: b (s: y a(q: x)), x, a (r).
        self.assertEqual(nested(OLD, TREE[0])[0], ("p", [("s", ["y", ("q", ["x"])]), "x", ("r", [])]))
        self.assertTrue(lets_by(OLD, paper()))
        self.assertTrue(led_holds(OLD, paper()))
        for other in ((LED[0], LED[1][::-1]), (LED[0], (("x", "x"), ("k", "xy"))), (("qq",), (("x", "x"), ("l", "end"))),
                      (LED[0] + ("tt",), LED[1]), (LED[0], LED[1] + (("x", "x"),)), (("pp", "rr", "ss"), LED[1] + (("k", "x"),))):
            self.assertFalse(lets_by(OLD, paper(other=other)))
        self.assertTrue(lets_by(OLD, paper(tree=(("q",), (("x", "x"),)), other=(("qq",), (("x", "x"), ("l", "end"))))))
        self.assertTrue(lets_by(OLD, paper(tree=(("r",), ()), other=(("rr", "tt"), ()))))
        self.assertFalse(lets_by(OLD, paper(tree=(("q",), (("x", "x"),)))))

    def test_forms(self):
        check_form(self, OLD, paper())
        for new in (None, "aa", OLD.rules(), (NEW,), Grammar):
            self.assertFalse(lets_by(OLD, paper(new=new)))
        names, templates = paper()[2:4]
        for other in (names[::-1], names + names[-1:], names + (("z", "aa"),), (names[0] + ("z",),) + names[1:], list(names), dict(names)):
            self.assertFalse(lets_by(OLD, ("led", NEW, other, templates, TREE, LED)))
        for other in (templates[::-1], templates + templates[-1:], list(templates), dict(templates)):
            self.assertFalse(lets_by(OLD, ("led", NEW, names, other, TREE, LED)))

    def test_names(self):
        for more_names in ({"b": "aa"}, {"b": "k"}, {"gap": "aa"}, {"gap": "z"}, {"z": "bb"}, {"p": "bb"}, {"gap": "x"}, {"b": ""}):
            self.assertFalse(lets_by(OLD, paper(names={**NAMES, **more_names})), more_names)
        free = {name: NAMES[name] for name in "axy"}
        for more_names in ({"z": "bb"}, {"z": "l"}, {"p": "bb"}, {"b": "l"}, {"gap": "bb"}, {"b": "z"}, {"gap": "pp"}):
            self.assertFalse(lets_by(OLD, paper(names={**free, **more_names})), more_names)
        for more_names in ({"gap": "gap"}, {"gap": "l"}):
            self.assertTrue(lets_by(OLD, paper(names={**NAMES, **more_names})), more_names)
        self.assertTrue(lets_by(OLD, paper(names={name: NAMES[name] for name in "axy"})))
        for lost in "axy":
            self.assertFalse(lets_by(OLD, paper(names={name: NAMES[name] for name in NAMES if name != lost})))

    def test_templates_that_are_no_walks(self):
        good = {label: TEMPLATES[label] for label in ("p", "q", "r")}
        for label, pieces in (
                ("p", ()), ("p", (("part", 3),)), ("p", TEMPLATES["p"][:-1]), ("p", TEMPLATES["p"] + (("part", 3),)),
                ("p", TEMPLATES["p"] + (("node", "tt"),)), ("z", TEMPLATES["r"]), ("s", TEMPLATES["r"]), ("t", TEMPLATES["r"]),
                ("p", (("node", "pp"), ("part", 3), ("part", 2), ("within", 1, "s", 1))),
                ("p", (("node", "pp"), ("part", 0), ("part", 3), ("within", 1, "s", 1))),
                ("p", (("node", "pp"), ("part", 4), ("part", 3), ("within", 1, "s", 1))),
                ("p", (("node", "pp"), ("part", 2), ("part", 1), ("within", 1, "s", 1))),
                ("p", (("node", "pp"), ("part", 2), ("part", 3), ("within", 1, "s", 2))),
                ("p", (("node", "pp"), ("part", 2), ("part", 3), ("within", 1, "s", 0))),
                ("p", (("node", "pp"), ("part", 2), ("part", 3), ("within", 1, "s", 3))),
                ("p", (("node", "pp"), ("part", 2), ("part", 3), ("within", 3, "r", 1))),
                ("p", (("node", "pp"), ("part", 2), ("part", 3), ("within", 2, "s", 1))),
                ("p", (("node", "pp"), ("part", 2), ("part", 3), ("within", 1, "q", 1))),
                ("p", (("node", "pp"), ("part", 2), ("part", 3), ("word", "k", "a"))),
                ("p", (("node", "pp"), ("part", 2), ("part", 3), ("word", "k", ""))),
                ("p", (("node", "pp"), ("part", 2), ("part", 3), ("word", "l", "end"))),
                ("p", (("node", "pp"), ("part", 2), ("part", 3), ("word", "k"))),
                ("p", (("node", "pp"), ("part", 2), ("node", "ss"), ("part", 2), ("within", 1, "s", 1))),
                ("p", (("node", "pp"), ("word", "gap", " "), ("part", 3), ("within", 1, "s", 1))),
                ("p", (("node", "pp"), ("part", True), ("part", 3), ("within", 1, "s", 1))),
                ("p", (("node", "p"), ("part", 2), ("part", 3), ("within", 1, "s", 1))),
                ("p", (("node", "pp"), ("part", 2), ("part", 3), ("other", 1, "s", 1))),
                ("p", (("node", "pp"), ("part", 2), ("part", 3), ("within", 1, "s"))),
                ("p", (("node", "pp"), ("part", 2), ("part", 3), ("within", 1, "s", 1, 1))),
                ("p", (("node", "pp"), ("part", 2), ("part", 3), ("within", 9, "s", 1))),
                ("p", (("node", "pp"), ("part", 2), ("part", 3), ("within", 1, ["s"], 1))),
                ("p", (("node", "pp"), ("part", 2), ("part", 3), ("word", "z", "a"))),
                ("p", (("node", "pp"), ("part", 2), ("part", 3), ("part", 1, 1))),
                ("p", (("node", "pp"), ("part", 2), ("part", 3), ())), ("p", (("node", "pp"), ("part", 2), ("part", 3), (None, 1))),
                ("p", (("node", "pp"), ("part", 2), ("part", 3), None)), ("p", (("node", "pp"), ("part", 2), ("part", 3), "node")),
                ("p", (None,)), ("p", ((),)), ("p", ("node",)), ("p", (("within", 1, "s", 2),)),
                ("r", (("node", "tt"),)), ("r", (("node", "rr"),)), ("r", (("node", "rr"), ("node", "tt"), ("node", "tt"))),
                ("r", (("other", "rr"), ("node", "tt"))), ("r", (("node", "rr", 1), ("node", "tt"))), ("r", (("node",), ("node", "tt")))):
            self.assertFalse(lets_by(OLD, paper(templates={**good, label: pieces})), pieces)
            # So too where no node of the tree is led by it.
            alone = {one: good[one] for one in "qr" if one != label}
            tree, other = ((("q",), (("x", "x"),)), (("qq",), (("x", "x"), ("l", "end")))) if label == "r" else ((("r",), ()), (("rr", "tt"), ()))
            self.assertTrue(lets_by(OLD, paper(templates=alone, tree=tree, other=other)))
            self.assertFalse(lets_by(OLD, paper(templates={**alone, label: pieces}, tree=tree, other=other)), pieces)

    def test_other_templates(self):
        for label, pieces, other in (
                ("p", (("node", "pp"), ("word", "x", "x"), ("part", 3), ("word", "k", "zz")),
                 (("pp", "rr", "tt"), (("x", "x"), ("k", "zz")))),
                ("p", (("node", "rs"), ("part", 3), ("part", 3)), (("rs", "rr", "tt", "rr", "tt"), ())),
                ("p", (("node", "rs"), ("within", 1, "s", 2), ("part", 3)), (("rs", "qq", "rr", "tt"), (("x", "x"), ("l", "end")))),
                ("p", (("node", "rr"), ("node", "ss"), ("within", 1, "s", 1)), (("rr", "ss"), (("k", "yx"),)))):
            self.assertTrue(lets_by(OLD, paper(templates={**TEMPLATES, label: pieces}, other=other)), pieces)
            self.assertFalse(lets_by(OLD, paper(templates={**TEMPLATES, label: pieces})), pieces)
        # A template of a label that is not in the tree must be right, too.
        self.assertTrue(lets_by(OLD, paper(templates={**TEMPLATES, "t": (("node", "tt"),)})))
        self.assertFalse(lets_by(OLD, paper(templates={**TEMPLATES, "t": (("node", "ss"),)})))

    def test_nodes_that_are_not_led(self):
        left = {label: TEMPLATES[label] for label in ("p", "q")}
        self.assertFalse(lets_by(OLD, paper(templates=left)))
        # What no template takes need not be led.
        left = {"p": (("node", "rr"), ("node", "tt"))}
        self.assertTrue(lets_by(OLD, paper(templates=left, other=(("rr", "tt"), ()))))
        self.assertFalse(lets_by(OLD, paper(templates={}, other=(("rr", "tt"), ()))))

    def test_trees_that_are_none(self):
        for tree in ((TREE[0][:-1], TREE[1]), (TREE[0], TREE[1][::-1]), (TREE[0], TREE[1][:-1]), (("s", "r"), (("y", "y"),)),
                     (("z",), ()), ((), ()), list(TREE), None, (TREE[0], (("y", "yz"),) + TREE[1][1:])):
            self.assertFalse(lets_by(OLD, paper(tree=tree)))
        # A tree of another rule than the beginning.
        begun = Grammar(NEW.kinds(), NEW.rules(), begin="bb")
        self.assertFalse(lets_by(OLD, paper(new=begun)))
        # A word whose new kind does not spell it.
        narrow = [(name, signs("x") if name == "k" else pattern, skipped) for name, pattern, skipped in NEW.kinds()]
        self.assertFalse(lets_by(OLD, paper(new=Grammar(narrow, NEW.rules()))))

    def test_bars(self):
        barred = Grammar(OLD.kinds(), OLD.rules(), bars=(("p", 3, "q"),))
        self.assertTrue(lets_by(barred, paper()))
        barred = Grammar(OLD.kinds(), OLD.rules(), bars=(("p", 3, "r"),))
        self.assertFalse(lets_by(barred, paper()))
        self.assertTrue(lets_by(OLD, paper(new=Grammar(NEW.kinds(), NEW.rules(), bars=(("pp", 2, "pp"),)))))
        self.assertFalse(lets_by(OLD, paper(new=Grammar(NEW.kinds(), NEW.rules(), bars=(("pp", 2, "rr"),)))))

    def test_led_far_longer_than_the_other_tree(self):
        grammar = grammar_of("a: p a | q")
        new = grammar_of("a: p a a | q")
        tree = (("p",) * 200 + ("q",), ())
        made = "led", new, (("a", "a"),), (("p", (("node", "p"), ("part", 1), ("part", 1))), ("q", (("node", "q"),)))
        self.assertFalse(lets_by(grammar, made + (tree, (("p", "q", "q"), ()))))
        self.assertTrue(lets_by(grammar, made + ((("p", "q"), ()), (("p", "q", "q"), ()))))
        deep = "led", new, (("a", "a"),), (("p", (("node", "p"), ("part", 1), ("node", "q"))), ("q", (("node", "q"),)))
        self.assertTrue(lets_by(grammar, deep + (tree, (("p",) * 200 + ("q",) * 201, ()))))
        self.assertFalse(lets_by(grammar, deep + (tree, (("p",) * 199 + ("q",) * 200, ()))))


class Alike(unittest.TestCase):
    def test_grammars_led_to_themselves(self):
        for grammar in list(NAMED.values()) + some_grammars(49, 20):
            names = tuple(sorted((name, name) for name in [one[0] for one in grammar.kinds() + grammar.rules()]))
            rows = rows_of(grammar)
            templates = tuple(sorted((label, (("node", label),) + tuple(("part", at + 1) for at in range(len(rows[label]))))
                                     for label in rows))
            trees = [tree_of(grammar, shape) for shape in shapes_up_to(grammar, 5)[:8]]
            for tree in trees:
                for other in trees:
                    self.assertEqual(lets_by(grammar, ("led", grammar, names, templates, tree, other)), tree == other)

    def test_sums_written_behind(self):
        new = Grammar(SUMS.kinds(), [("sum", [("one", ("term",)), ("both", ("sum", "term", "plus"))]), SUMS.rules()[1]])
        names = (("num", "num"), ("plus", "plus"), ("sum", "sum"), ("term", "term"))
        templates = (("both", (("node", "both"), ("part", 1), ("part", 3), ("part", 2))), ("leaf", (("node", "leaf"), ("part", 1))),
                     ("none", (("node", "none"),)), ("one", (("node", "one"), ("part", 1))))
        tree = (("both", "both", "one", "leaf", "leaf", "none"), (("num", "1"), ("plus", "+"), ("num", "22"), ("plus", "+")))
        other = (tree[0], (("num", "1"), ("num", "22"), ("plus", "+"), ("plus", "+")))
        self.assertTrue(lets_by(SUMS, ("led", new, names, templates, tree, other)))
        self.assertFalse(lets_by(SUMS, ("led", new, names, templates, tree, tree)))
        self.assertFalse(lets_by(SUMS, ("led", new, names, templates, other, other)))
