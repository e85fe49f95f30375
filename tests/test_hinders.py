"""Point 141: trees that a step does not lead, and the step that two grammars have by themselves."""

import unittest
from random import Random

from tests.brute import either, maybe, more, signs, then, word
from tests.brute_bridges import PAIRS, plain_led, some_steps
from tests.brute_grammars import BARRED, NAMED, SUMS, grammar_of, nested, shapes_up_to, some_grammars, words_of
from tests.test_bridges import straight_step
from tests.test_deeds import BASE, some_deed
from tongueyard.bridges import Step, led, step_fault
from tongueyard.deeds import done
from tongueyard.errors import Barred, NoDeed, NoGrammar, NoLead
from tongueyard.grammars import Grammar
from tongueyard.hinders import found_step, hindered
from tongueyard.patterns import only_text, spells
from tongueyard.trees import is_tree

TEXTS = ["x", "y", "xy", "yx", "xyx", "1", "+", "22"]


def least_hindered(step, most):
    """The number of words of a tree that is not led, of all of few labels; None where each is led."""
    texts = {name: [text for text in TEXTS if spells(pattern, text)] for name, pattern, _ in step.old().kinds()}
    found = []
    for shape in shapes_up_to(step.old(), most):
        kinds = words_of(nested(step.old(), shape)[0])
        # One word at a time is otherwise than the first text of its kind.
        rows = [tuple((kind, texts[kind][0]) for kind in kinds)]
        rows += [rows[0][:at] + ((kind, text),) + rows[0][at + 1:] for at,
                 kind in enumerate(kinds) for text in texts[kind]]
        if any(isinstance(plain_led(step, (shape, words))[1], str) for words in rows):
            found.append(len(kinds))
    return min(found) if found else None


class Hindered(unittest.TestCase):
    def check(self, step, most=7):
        told = hindered(step)
        wanted = least_hindered(step, most)
        if told is None:
            self.assertIsNone(wanted)
            return False
        self.assertTrue(is_tree(step.old(), told))
        with self.assertRaises(NoLead):
            led(step, told)
        if wanted is not None:
            self.assertLessEqual(len(told[1]), wanted)
        if len(told[0]) <= most:
            self.assertEqual(len(told[1]), wanted)
        return True

    def test_by_hand(self):
        old, new = grammar_of("a: p b x | q y\n b: r x b | s"), grammar_of("a: p b x | q y\n b: r x b | s")
        self.assertIsNone(hindered(straight_step(old, new)))
        names = {"a": "a", "b": "b", "x": "x", "y": "y"}
        whole = straight_step(old, new).templates()

        def told(names, **others):
            return hindered(Step(old, new, names, {label: pieces for label,
                                                   pieces in {**whole, **others}.items() if pieces}))
        self.assertEqual(told(names, s=None), (("p", "s"), (("x", "x"),)))
        self.assertEqual(told(names, r=None), (("p", "r", "s"), (("x", "x"), ("x", "x"))))
        self.assertEqual(told(names, q=None), (("q",), (("y", "y"),)))
        self.assertEqual(told({name: name for name in "abx"}, q=None), (("q",), (("y", "y"),)))
        # What no template takes hinders nothing.
        self.assertIsNone(told(names, p=(("node", "p"), ("node", "s"), ("word", "x", "x")), s=None, r=None))
        self.assertEqual(told({name: name for name in "bxy"}, p=None, q=None), (("q",), (("y", "y"),)))
        narrow = Grammar([("x", signs("x"), False), ("y", signs("z"), False)], new.rules())
        self.assertEqual(hindered(Step(old, narrow, names, whole)), (("q",), (("y", "y"),)))

    def test_the_least_text_that_is_not_spelled(self):
        old = grammar_of("a: p x", kinds=[("x", more(signs("ab")), False)])
        new = grammar_of("a: p x", kinds=[("x", either(signs("b"), then(more(signs("a")), maybe(signs("b")))), False)])
        tree = hindered(straight_step(old, new))
        self.assertEqual(tree, (("p",), (("x", "ba"),)))
        self.assertIsNone(hindered(straight_step(new, new)))

    def test_the_beginning(self):
        old = grammar_of("a: p x | q b\n b: r | s y b")
        for new, names in ((grammar_of("c: p x"), {}), (grammar_of("a: p x\n c: q y"), {"a": "c"}),
                           (Grammar(old.kinds(), old.rules(), begin="b"), {"a": "a", "b": "b"})):
            self.assertEqual(hindered(Step(old, new, names, {})), (("q", "r"), ()))
        barren = NAMED["barren"]
        self.assertIsNone(hindered(Step(barren, old, {}, {})))

    def test_against_a_slow_search(self):
        hinders, free = 0, 0
        for step in some_steps(12, 150):
            if not step.new().bars():
                if self.check(step):
                    hinders += 1
                else:
                    free += 1
        chance = Random(6)
        grammars = [Grammar(BASE.kinds(), BASE.rules()), SUMS, NAMED["half"], NAMED["nullable"], NAMED["begun"],
                    NAMED["ring"], NAMED["apart"]] + some_grammars(5, 30)
        for number in range(400):
            try:
                step = done(grammars[number % len(grammars)], some_deed(grammars[number % len(grammars)], chance))[1]
            except (NoDeed, NoGrammar, IndexError):
                continue
            if not step.new().bars():
                if self.check(step, 6):
                    hinders += 1
                else:
                    free += 1
        self.assertGreater(hinders, 60)
        self.assertGreater(free, 120)

    def test_templates_dropped(self):
        hinders = 0
        chance = Random(8)
        for grammar in list(NAMED.values()) + some_grammars(15, 40):
            templates = straight_step(grammar, grammar).templates()
            left = {label: pieces for label, pieces in templates.items() if chance.random() < 0.75}
            names = {name: name for name in [one[0] for one in grammar.rules()] + ["x", "y", "num",
                "plus"] if grammar.is_kind(name) or name in "abcd" or len(name) > 2}
            step = Step(grammar, grammar, {name: name for name in names if name not in ("num",
                "plus") or grammar.is_kind(name)}, left)
            if step_fault(step) is None:
                hinders += self.check(step, 6)
        self.assertGreater(hinders, 15)

    def test_barred(self):
        for grammar in BARRED.values():
            plain = Grammar(grammar.kinds(), grammar.rules(), begin=grammar.begin())
            for step in (straight_step(grammar, plain), straight_step(plain, grammar), straight_step(grammar, grammar)):
                with self.assertRaises(Barred) as caught:
                    hindered(step)
                self.assertEqual(caught.exception.label, grammar.bars()[0][0])
        one, other = grammar_of("a: p a | q x", bars=(("p", 1, "q"),)), grammar_of("b: l b | m x",
            bars=(("l", 1, "m"),))
        with self.assertRaises(Barred) as caught:
            hindered(Step(one, other, {}, {}))
        self.assertEqual(caught.exception.label, "p")


class Found(unittest.TestCase):
    def test_symbol_by_symbol(self):
        old = grammar_of("a: p x a y | q b b | r x | s x x | t y | u x | v\n b: w | z x\n c: k x\n d: l y", kinds=[
            ("x", signs("x"), False), ("y", more(signs("y")), False), ("end", word("end"), False),
                ("gap", signs(" "), True), ("off", signs("o"), False)])
        new = grammar_of("a: p y a x | q b | r x x | s x end x | t y y | u e x e | l y\n b: w b | z y x | k x\n e: i f f | j x\n f: h\n d: v", kinds=[
            ("x", signs("x"), False), ("y", more(signs("yz")), False), ("end", word("fin"), False),
                ("gap", signs("_"), True), ("on", signs("o"), False)])
        step = found_step(old, new)
        self.assertIsNone(step_fault(step))
        self.assertEqual((step.old(), step.new()), (old, new))
        self.assertEqual(step.names(), {name: name for name in ("x", "y", "end", "gap", "a", "b", "d")})
        self.assertEqual(step.templates(), {
            "p": (("node", "p"), ("part", 3), ("part", 2), ("part", 1)), "q": (("node", "q"), ("part", 1)),
            # A second x is put in, being the only text; a second y is not.
            "r": (("node", "r"), ("part", 1), ("word", "x", "x")), "s": (("node", "s"), ("part", 1),
                ("word", "end", "fin"), ("part", 2)),
            "u": (("node", "u"), ("node", "i"), ("node", "h"), ("node", "h"), ("part", 1), ("node", "i"), ("node", "h"),
                  ("node", "h"))})
        # Of w the rule in it is not empty; z lacks a y; k, l and v are of other rules.

    def test_bars_put_no_shapes_in(self):
        old = grammar_of("a: p x | q x")
        new = grammar_of("a: p b x | q x x\n b: r | s b")
        self.assertEqual(found_step(old, new).templates(), {"p": (("node", "p"), ("node", "r"), ("part", 1)),
                                                            "q": (("node", "q"), ("part", 1), ("word", "x", "x"))})
        barred = Grammar(new.kinds(), new.rules(), bars=(("s", 1, "s"),))
        self.assertEqual(found_step(old, barred).templates(), {"q": (("node", "q"), ("part", 1), ("word", "x", "x"))})
        self.assertEqual(found_step(barred, old).templates(), {"p": (("node", "p"), ("part", 2)),
            "q": (("node", "q"), ("part", 1))})

    def test_names_of_one_sort(self):
        old = grammar_of("a: p x b\n b: q", kinds=[("x", signs("x"), False), ("c", signs("y"), False)])
        new = grammar_of("a: p x b c\n c: r", kinds=[("x", signs("x"), False), ("b", signs("bc"), False)])
        step = found_step(old, new)
        self.assertEqual((step.names(), step.templates()), ({"x": "x", "a": "a"}, {}))
        single = Grammar([("x", signs("x"), False), ("b", signs("b"), False)], new.rules())
        self.assertEqual(found_step(old, single).templates(), {"p": (("node", "p"), ("part", 1), ("word", "b", "b"),
            ("node", "r"))})

    def test_of_all_pairs(self):
        grammars = [one for pair in PAIRS for one in pair[:2]] + list(NAMED.values()) + list(BARRED.values()) + some_grammars(3, 10)
        for old in grammars:
            for new in grammars:
                step = found_step(old, new)
                self.assertIsNone(step_fault(step))
                self.check_each(step, old, new)

    def check_each(self, step, old, new):
        rules = [name for name, _ in old.rules() if name in [other for other, _ in new.rules()]]
        kinds = [one[0] for one in old.kinds() if new.is_kind(one[0])]
        self.assertEqual(step.names(), {name: name for name in rules + kinds})
        only = {name: only_text(pattern) for name, pattern, _ in new.kinds()}
        for label in old.labels():
            if label not in new.labels() or old.rule_of(label) != new.rule_of(label):
                self.assertNotIn(label, step.templates())
                continue
            pieces = list(step.templates().get(label, ()))[1:]
            if label in step.templates():
                self.assertEqual(step.templates()[label][0], ("node", label))
                taken = [piece[1] for piece in pieces if piece[0] == "part"]
                for symbol in set(rules + kinds):
                    places = [at for at, one in enumerate(old.row_of(label), 1) if one == symbol]
                    self.assertEqual([at for at in taken if at in places], places[:new.row_of(label).count(symbol)])
                self.assertTrue(all(only[piece[1]] == piece[2] for piece in pieces if piece[0] == "word"))

    def test_alike(self):
        for grammar in list(NAMED.values()) + list(BARRED.values()):
            self.assertEqual(found_step(grammar, grammar), straight_step(grammar, grammar))
