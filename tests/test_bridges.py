"""Points 135 to 138: steps and bridges."""

import copy
import unittest
from random import Random

from tests.brute_bridges import KINDS, PAIRS, plain_led, some_steps, some_words
from tests.brute_grammars import SUMS, grammar_of, shapes_up_to
from tests.test_judge_bridges import LED, NAMES, NEW, OLD, TEMPLATES, TREE
from tongueyard.bridges import Bridge, Step, led, led_paper, step_fault, turned
from tongueyard.errors import NoBack, NoLead, NoTree
from tongueyard.grammars import Grammar
from tongueyard.judge import lets_by
from tongueyard.trees import is_tree


def refusal(call):
    try:
        return call()
    except NoLead as found:
        return NoLead, found.step, found.number, found.why
    except NoTree as found:
        return NoTree, found.node
    except NoBack as found:
        return NoBack, found.label


def straight_step(old, new, names=None):
    names = {name: name for name in [one[0] for one in old.kinds() + old.rules()]} if names is None else names
    return Step(old, new, names, {label: (("node", label),) + tuple(("part",
        at + 1) for at in range(len(old.row_of(label))))
                                  for label in old.labels()})


def trees_of(grammar, most, seed, many=6):
    chance = Random(seed)
    shapes = sorted(shapes_up_to(grammar, most))
    return [(shape, some_words(grammar, shape, chance)) for shape in chance.sample(shapes, min(many, len(shapes)))]


class Steps(unittest.TestCase):
    def test_what_is_told(self):
        names, templates = dict(NAMES), dict(TEMPLATES)
        step = Step(OLD, NEW, names, templates)
        names.clear()
        templates["p"] = ()
        self.assertEqual((step.old(), step.new(), step.names(), step.templates()), (OLD, NEW, NAMES, TEMPLATES))
        self.assertEqual(list(step.names()), list(NAMES))
        self.assertEqual(list(step.templates()), list(TEMPLATES))
        step.names().clear()
        step.templates().clear()
        self.assertEqual((step.names(), step.templates()), (NAMES, TEMPLATES))
        self.assertEqual(repr(step), "Step(3)")
        self.assertEqual(step.steps(), [step])
        step.steps().clear()
        self.assertEqual(len(step.steps()), 1)

    def test_equal(self):
        step = Step(OLD, NEW, NAMES, TEMPLATES)
        self.assertEqual(step, Step(OLD, NEW, dict(reversed(NAMES.items())), dict(reversed(TEMPLATES.items()))))
        for other in (Step(NEW, NEW, NAMES, TEMPLATES), Step(OLD, OLD, NAMES, TEMPLATES), Step(OLD, NEW, {}, TEMPLATES),
                      Step(OLD, NEW, NAMES, {}), Bridge([step]), None, (OLD, NEW, NAMES, TEMPLATES), 1,
                      Step(OLD, NEW, {**NAMES, "gap": "gap"}, TEMPLATES)):
            self.assertFalse(step == other)
            self.assertTrue(step != other)

    def test_leads_and_straight(self):
        step = Step(OLD, NEW, NAMES, TEMPLATES)
        self.assertEqual([step.leads(label) for label in ("p", "q", "r", "s", "t", "z", "")],
                         ["pp", "qq", "rr", None, None, None, None])
        self.assertEqual([step.leads_name(name) for name in ("a", "x", "y", "b", "gap", "p", "")],
                         ["aa", "x", "k", None, None, None, None])
        self.assertEqual([step.straight(label) for label in ("p", "q", "r", "s", "z")], [False] * 5)
        old = grammar_of("a: p x y | q x | r | s x y | t x")
        new = grammar_of("a: p x y | q x y | r | s x y | t")
        made = Step(old, new, {"a": "a", "x": "x", "y": "y"}, {
            "p": (("node", "p"), ("part", 1), ("part", 2)), "q": (("node", "q"), ("part", 1), ("word", "y", "y")),
                "r": (("node", "r"),),
            "s": (("node", "s"), ("part", 1), ("word", "y", "y")), "t": (("node", "t"),)})
        self.assertIsNone(step_fault(made))
        self.assertEqual([made.straight(label) for label in "pqrst"], [True, False, True, False, False])
        twice = Step(grammar_of("a: p x x"), grammar_of("a: p x x"), {"a": "a", "x": "x"},
                     {"p": (("node", "p"), ("part", 2), ("part", 1))})
        self.assertFalse(twice.straight("p"))
        self.assertTrue(straight_step(OLD, OLD).straight("p"))


class Faults(unittest.TestCase):
    def fault(self, names=None, templates=None, new=NEW):
        return step_fault(Step(OLD, new, NAMES if names is None else names,
                               TEMPLATES if templates is None else templates))

    def test_right_ones(self):
        self.assertIsNone(self.fault())
        self.assertIsNone(self.fault(templates={}))
        self.assertIsNone(self.fault(names={}, templates={}))
        for step in some_steps(1, 60):
            self.assertIsNone(step_fault(step))
        for grammar in (SUMS, OLD, NEW):
            self.assertIsNone(step_fault(straight_step(grammar, grammar)))
        # Bars are not minded.
        barred = Grammar(NEW.kinds(), NEW.rules(), bars=(("rr", 1, "tt"), ("pp", 2, "pp")))
        self.assertIsNone(self.fault(new=barred))

    def test_names(self):
        for wrong in ({"z": "aa"}, {"a": "z"}, {"a": "k"}, {"x": "aa"}, {"p": "aa"}, {"b": "pp"}, {"b": "aa"},
                      {"gap": "x"}, {"c": "aa"}, {"": "aa"}, {"b": ""}, {"b": None}, {"b": ("aa",)}):
            self.assertEqual(self.fault(names={**NAMES, **wrong}), "", wrong)
            # Names are looked at first.
            self.assertEqual(self.fault(names={**NAMES, **wrong}, templates={"z": ()}), "")

    def test_templates(self):
        good = {"p": TEMPLATES["p"], "q": TEMPLATES["q"], "r": TEMPLATES["r"]}
        for label, pieces in (
                ("p", ()), ("p", TEMPLATES["p"][:-1]), ("p", TEMPLATES["p"] + (("part", 3),)), ("z", TEMPLATES["r"]),
                              ("s", TEMPLATES["r"]),
                ("p", (("part", 3),)), ("q", (("node", "qq"), ("part", 1), ("word", "l", "ende"))),
                              ("q", (("node", "qq"), ("part", 1), ("word", "k", "x"))),
                ("q", (("node", "ss"), ("part", 1))), ("q", (("node", "zz"), ("part", 1))),
                              ("q", (("node", "qq"), ("part", 2), ("word", "l", "end"))),
                ("p", (("node", "pp"), ("part", 2), ("part", 3), ("within", 3, "q", 1))),
                              ("p", (("node", "pp"), ("part", 2), ("part", 3), ("within", 1, "t", 1))),
                ("p", (("node", "pp"), ("part", 2), ("part", 3), ("within", 1, "s", 2))),
                              ("p", (("node", "pp"), ("part", 2), ("part", 3), ("within", 1, "s", 9))),
                ("p", (("node", "pp"), ("part", 2), ("part", 1), ("within", 1, "s", 1))),
                              ("p", (("node", "pp"), ("part", 0), ("part", 3), ("within", 1, "s", 1))),
                ("r", (("node", "rr"),)), ("r", (("node", "rr"), ("node", "ss"))), ("r", None),
                              ("r", [("node", "rr"), ("node", "tt")]), ("r", ("node", "rr")),
                ("r", (("node", "rr"), None)), ("r", (("node", "rr"), ("other", "tt"))),
                              ("r", (("node", "rr", 1), ("node", "tt")))):
            self.assertEqual(self.fault(templates={**good, label: pieces}), label, pieces)
        # The first one in order that is wrong.
        self.assertEqual(self.fault(templates={"r": (), "p": ()}), "r")
        self.assertEqual(self.fault(templates={"p": (), "r": ()}), "p")
        self.assertEqual(self.fault(templates={"q": TEMPLATES["q"], "z": (), "r": ()}), "z")
        # A rule without a name has no template.
        self.assertEqual(self.fault(names={"x": "x", "y": "k"}), "p")


class Led(unittest.TestCase):
    def test_by_hand(self):
        step = Step(OLD, NEW, NAMES, TEMPLATES)
        self.assertEqual(led(step, TREE), LED)
        # p(s(y q(x)) x r) became pp(x rr(tt) k).
        self.assertEqual(led(step, TREE, keep=True), (LED, {0: 0, 1: 3}, {0: 2, 1: 0}))
        self.assertEqual(led(Bridge([step]), TREE, keep=True), (LED, {0: 0, 1: 3}, {0: 2, 1: 0}))
        self.assertTrue(lets_by(OLD, led_paper(step, TREE)))

    def test_against_a_slow_one(self):
        reasons, trees = {}, 0
        for seed, step in enumerate(some_steps(7, 160)):
            for tree in trees_of(step.old(), 6, seed):
                wanted = plain_led(step, tree)
                told = refusal(lambda: led(step, tree, keep=True))
                if isinstance(wanted[1], str):
                    reasons[wanted[1]] = reasons.get(wanted[1], 0) + 1
                    self.assertEqual(told, (NoLead, 0) + wanted)
                    self.assertEqual(refusal(lambda: led(step, tree)), (NoLead, 0) + wanted)
                    self.assertEqual(refusal(lambda: led_paper(step, tree)), (NoLead, 0) + wanted)
                    self.assertEqual(refusal(lambda: led(Bridge([straight_step(step.old(), step.old()), step]), tree)),
                                     (NoLead, 1) + wanted)
                    continue
                trees += 1
                self.assertEqual(told, wanted)
                self.assertEqual(led(step, tree), wanted[0])
                self.assertTrue(is_tree(step.new(), wanted[0]))
                self.check_paper(step, tree, wanted[0])
        self.assertEqual(sorted(reasons), ["bar", "begin", "label", "word"])
        self.assertTrue(all(many > 3 for many in reasons.values()), reasons)
        self.assertGreater(trees, 300)

    def check_paper(self, step, tree, other):
        paper = led_paper(step, tree)
        self.assertEqual(paper, ("led", step.new(), tuple(sorted(step.names().items())),
                                 tuple(sorted(step.templates().items())), tree, other))
        self.assertTrue(lets_by(step.old(), paper))
        bent = [(other[0][:-1], other[1]), (other[0] + ("p",), other[1]),
                (other[0], other[1][1:] if other[1] else (("x", "x"),)),
                (other[0], other[1][:-1] + (("k", "xx"),))]
        for one in bent:
            if one != other:
                self.assertFalse(lets_by(step.old(), paper[:5] + (one,)))
        if not is_tree(step.old(), other):
            self.assertFalse(lets_by(step.old(), paper[:4] + (other, other)))

    def test_no_tree(self):
        step = Step(OLD, NEW, NAMES, TEMPLATES)
        for thing, node in ((None, None), ((), None), (TREE[0], None), (7, None), ((("p",), ()), 1),
                            ((TREE[0], TREE[1][:-1]), None), ((["r"], ()), None),
                            ((("s",), ()), 0), ((("r", "r"), ()), 1), ((("q",), (("x", "y"),)), None)):
            for bridge in (step, Bridge([step])):
                self.assertEqual(refusal(lambda: led(bridge, thing)), (NoTree, node))
                self.assertEqual(refusal(lambda: led(bridge, thing, keep=True)), (NoTree, node))
        barred = Grammar(OLD.kinds(), OLD.rules(), bars=(("p", 3, "r"),))
        self.assertEqual(refusal(lambda: led(Step(barred, NEW, NAMES, TEMPLATES), TREE)), (NoTree, 3))
        # No tree goes ahead of a beginning that is not led.
        self.assertEqual(refusal(lambda: led(Step(OLD, NEW, {}, {}), ((), ()))), (NoTree, 0))
        self.assertEqual(refusal(lambda: led(Step(OLD, NEW, {}, {}), TREE)), (NoLead, 0, 0, "begin"))
        begun = Grammar(NEW.kinds(), NEW.rules(), begin="bb")
        self.assertEqual(refusal(lambda: led(Step(OLD, begun, NAMES, TEMPLATES), TREE)), (NoLead, 0, 0, "begin"))

    def test_what_is_come_to(self):
        # The part at 1 is not led, but what is within; the first word that can't be led in the old order is told.
        old = grammar_of("a: p b x | q x\n b: r y a x", kinds=KINDS)
        new = grammar_of("a: p x a x | q x", kinds=KINDS)
        names = {"a": "a", "x": "x"}
        step = Step(old, new, names, {"p": (("node", "p"), ("part", 2), ("within", 1, "r", 2), ("within", 1, "r", 3)),
                                      "q": (("node", "q"), ("part", 1))})
        self.assertIsNone(step_fault(step))
        tree = (("p", "r", "q"), (("y", "y"), ("x", "x"), ("x", "x"), ("x", "x")))
        self.assertEqual(led(step, tree, keep=True), ((("p", "q"), (("x", "x"),) * 3), {0: 0, 1: 2},
                                                      {0: 3, 1: 1, 2: 2}))
        self.assertEqual(refusal(lambda: led(Step(old, new, names, {"p": step.templates()["p"]}), tree)),
                         (NoLead, 0, 2, "label"))
        narrow = Grammar([("x", ("signs", "y"), False), KINDS[1]], new.rules())
        self.assertEqual(refusal(lambda: led(Step(old, narrow, names, step.templates()), tree)), (NoLead, 0, 1, "word"))
        deep = (("p", "r", "p", "r", "q"), (("y", "y"), ("y", "y"), ("x", "x"), ("x", "x"), ("x", "x"), ("x", "x"),
                                            ("x", "x")))
        self.assertEqual(refusal(lambda: led(Step(old, narrow, names, {"p": step.templates()["p"]}), deep)),
                         (NoLead, 0, 4, "label"))
        self.assertEqual(refusal(lambda: led(Step(old, new, names, {"q": step.templates()["q"]}), deep)),
                         (NoLead, 0, 0, "label"))

    def test_made_longer(self):
        old, new = grammar_of("a: p a | q x"), grammar_of("a: p a a | q x")
        step = Step(old, new, {"a": "a", "x": "x"}, {"p": (("node", "p"), ("part", 1), ("part", 1)),
                                                     "q": (("node", "q"), ("part", 1))})
        tree, nodes, words = led(step, (("p",) * 12 + ("q",), (("x", "x"),)), keep=True)
        self.assertEqual((len(tree[0]), len(tree[1])), (8191, 4096))
        self.assertEqual(set(words.values()), {0})
        self.assertEqual(sorted(set(nodes.values())), list(range(13)))


class Bridges(unittest.TestCase):
    def steps(self):
        one = Step(OLD, NEW, NAMES, TEMPLATES)
        new = grammar_of("d: k x d l | m e\n e: n", kinds=[("x", ("signs", "x"), False),
                                                           ("l", ("more", ("signs", "xyz")), False)])
        two = Step(NEW, new, {"aa": "d", "bb": "e", "x": "x", "k": "l"}, {
            "pp": (("node", "k"), ("part", 1), ("part", 2), ("part", 3)), "rr": (("node", "m"), ("part", 1)),
                "tt": (("node", "n"),)})
        return one, two

    def test_step_by_step(self):
        one, two = self.steps()
        bridge = Bridge([one, two])
        self.assertEqual((len(bridge), bridge.steps()), (2, [one, two]))
        self.assertEqual([bridge.leads(label) for label in ("p", "r", "q", "s", "z")], ["k", "m", None, None, None])
        self.assertEqual([bridge.leads_name(name) for name in ("a", "x", "y", "c", "b")], ["d", "x", "l", "e", None])
        self.assertEqual([bridge.straight(label) for label in "pqr"], [False, False, False])
        self.assertEqual([Bridge([two]).straight(label) for label in ("pp", "rr", "tt", "qq")],
                         [True, True, True, False])
        self.assertEqual([Bridge([straight_step(NEW, NEW), two]).straight(label) for label in ("pp", "tt", "qq")],
                         [True, True, False])
        self.assertEqual(led(bridge, TREE), (("k", "m", "n"), LED[1][:1] + (("l", "yx"),)))
        self.assertEqual(led(bridge, TREE, keep=True)[1:], ({0: 0, 1: 3}, {0: 2, 1: 0}))
        tree = (("q",), (("x", "x"),))
        self.assertEqual(refusal(lambda: led(bridge, tree)), (NoLead, 1, 0, "label"))
        self.assertEqual(refusal(lambda: led(bridge, tree, keep=True)), (NoLead, 1, 0, "label"))
        # What the first step made has no old one; numbers of the refusal are those of the tree ahead of that step.
        self.assertEqual(led(bridge, (("r",), ()), keep=True), ((("m", "n"), ()), {0: 0}, {}))

    def test_joined(self):
        one, two = self.steps()
        bridge = Bridge([one]).joined_to(Bridge([two]))
        self.assertEqual(bridge, Bridge([one, two]))
        self.assertEqual(Bridge().joined_to(bridge), bridge)
        self.assertEqual(bridge.joined_to(Bridge()).steps(), [one, two])
        self.assertEqual(Bridge([one]).joined_to(two).steps(), [one, two])
        self.assertNotEqual(Bridge([one]), Bridge([two]))
        self.assertNotEqual(Bridge([one]), one)
        self.assertNotEqual(Bridge(), None)
        self.assertFalse(Bridge() == [])
        steps = [one]
        held = Bridge(steps)
        steps.append(two)
        held.steps().append(two)
        self.assertEqual((len(held), len(Bridge((one, two)))), (1, 2))

    def test_without_steps(self):
        bridge = Bridge()
        self.assertEqual((bridge.steps(), len(bridge)), ([], 0))
        for text in ("p", "a", "", "any text"):
            self.assertEqual((bridge.leads(text), bridge.leads_name(text), bridge.straight(text)), (text, text, True))
        self.assertEqual(led(bridge, TREE), TREE)
        self.assertEqual(led(bridge, TREE, keep=True), (TREE, {at: at for at in range(4)}, {at: at for at in range(3)}))

    def test_against_a_slow_one(self):
        many = 0
        steps = list(some_steps(21, 200))
        pairs = [(one, two) for one in steps for two in steps if one.new() == two.old()][:300]
        pairs += [(one, straight_step(one.new(), one.new())) for one in steps]
        for seed, (one, two) in enumerate(pairs):
            for tree in trees_of(one.old(), 5, seed, 3):
                first = plain_led(one, tree)
                if isinstance(first[1], str):
                    continue
                second = plain_led(two, first[0])
                told = refusal(lambda: led(Bridge([one, two]), tree, keep=True))
                if isinstance(second[1], str):
                    self.assertEqual(told, (NoLead, 1) + second)
                    continue
                many += 1
                self.assertEqual(told[0], second[0])
                self.assertEqual(told[1], {new: first[1][middle] for new,
                                           middle in second[1].items() if middle in first[1]})
                self.assertEqual(told[2], {new: first[2][middle] for new,
                                           middle in second[2].items() if middle in first[2]})
        self.assertGreater(many, 80)


class Turned(unittest.TestCase):
    OLD = grammar_of("a: p b x a | q y\n b: r x y\n c: s", kinds=KINDS)
    NEW = grammar_of("d: k e d x | l y | m d\n e: n x y\n f: o y x\n g: h g", kinds=KINDS)
    NAMES = {"a": "d", "b": "e", "x": "x", "y": "y", "c": "g"}
    GOOD = {"p": (("node", "k"), ("part", 1), ("part", 3), ("part", 2)), "q": (("node", "l"), ("part", 1)),
            "r": (("node", "n"), ("part", 1), ("part", 2))}

    def test_by_hand(self):
        old = Grammar(self.OLD.kinds(), self.OLD.rules()[:2])
        step = Step(old, self.NEW, {name: self.NAMES[name] for name in "abxy"}, self.GOOD)
        back = turned(step)
        self.assertEqual(back, Step(self.NEW, old, {"d": "a", "e": "b", "x": "x", "y": "y"}, {
            "k": (("node", "p"), ("part", 1), ("part", 3), ("part", 2)), "l": (("node", "q"), ("part", 1)),
                "n": (("node", "r"), ("part", 1), ("part", 2))}))
        self.assertIsNone(step_fault(back))
        tree = (("p", "r", "p", "r", "q"), (("x", "x"), ("y", "y"), ("x", "x"), ("x", "x"), ("y", "xy"), ("x", "x"),
                                            ("y", "yy")))
        self.assertEqual(led(back, led(step, tree)), tree)
        self.assertEqual(refusal(lambda: turned(back)), (NoBack, "m"))

    def test_within_and_made_nodes(self):
        old = grammar_of("a: p b y | q x\n b: r x y", kinds=KINDS)
        new = grammar_of("a: k x c | l x\n c: m y y", kinds=KINDS)
        step = Step(old, new, {"a": "a", "x": "x", "y": "y"}, {
            "p": (("node", "k"), ("within", 1, "r", 1), ("node", "m"), ("part", 2), ("within", 1, "r", 2)),
                "q": (("node", "l"), ("part", 1))})
        self.assertIsNone(step_fault(step))
        # The label within has no template of its own.
        self.assertEqual(refusal(lambda: turned(step)), (NoBack, "r"))
        more_names = Step(old, Grammar(new.kinds(), new.rules() + [("b", [("r", ("x", "y"))])]),
                          {**step.names(), "b": "b"},
                          {**step.templates(), "r": (("node", "r"), ("part", 1), ("part", 2))})
        back = turned(more_names)
        self.assertEqual(back.templates()["k"], (("node", "p"), ("node", "r"), ("part", 1), ("within", 2, "m", 2),
                                                 ("within", 2, "m", 1)))
        self.assertIsNone(step_fault(back))
        tree = (("p", "r"), (("x", "x"), ("y", "xyx"), ("y", "y")))
        self.assertEqual(led(more_names, tree), (("k", "m"), (("x", "x"), ("y", "y"), ("y", "xyx"))))
        self.assertEqual(led(back, led(more_names, tree)), tree)

    def test_no_back(self):
        old, names = Grammar(self.OLD.kinds(), self.OLD.rules()[:2]), {name: self.NAMES[name] for name in "abxy"}
        new = grammar_of("d: k e d x | l y | m d | n e d x x | o f | h e d d g x\n e: i x y\n f: j e d x\n g: t x | u",
                         kinds=KINDS)
        good = {"p": (("node", "k"), ("part", 1), ("part", 3), ("part", 2)), "q": (("node", "l"), ("part", 1)),
                "r": (("node", "i"), ("part", 1), ("part", 2))}
        self.assertIsNone(step_fault(Step(old, new, names, good)))
        turned(Step(old, new, names, good))
        for label, pieces in (
                ("p", None), ("q", None), ("r", None),
                ("p", (("node", "m"), ("part", 3))), ("p", (("node", "n"), ("part", 1), ("part", 3), ("part", 2),
                                                            ("part", 2))),
                ("p", (("node", "h"), ("part", 1), ("part", 3), ("part", 3), ("node", "u"), ("part", 2))),
                ("p", (("node", "m"), ("node", "k"), ("part", 1), ("part", 3), ("part", 2))),
                ("p", (("node", "h"), ("part", 1), ("part", 3), ("node", "l"), ("word", "y", "y"), ("node", "t"),
                       ("part", 2), ("word", "x", "x"))),
                ("p", (("node", "k"), ("node", "i"), ("within", 1, "r", 1), ("word", "y", "y"), ("part", 3),
                       ("part", 2))),
                ("p", (("node", "k"), ("part", 1), ("part", 3), ("word", "x", "x"))),
                              ("q", (("node", "l"), ("word", "y", "y")))):
            templates = {one: told for one, told in {**good, label: pieces}.items() if told is not None}
            step = Step(old, new, names, templates)
            self.assertIsNone(step_fault(step), pieces)
            self.assertEqual(refusal(lambda: turned(step)), (NoBack, label), pieces)
        # In a made node of a rule with one alternative it may stand; and so may those of a rule with one alternative.
        for pieces in ((("node", "o"), ("node", "j"), ("part", 1), ("part", 3), ("part", 2)),
                       (("node", "k"), ("node", "i"), ("within", 1, "r", 1), ("within", 1, "r", 2), ("part", 3),
                        ("part", 2)),
                       (("node", "n"), ("part", 1), ("part", 3), ("part", 2), ("word", "x", "x")),
                       (("node", "h"), ("part", 1), ("part", 3), ("node", "l"), ("word", "y", "y"), ("node", "u"),
                        ("part", 2))):
            step = Step(old, new, names, {**good, "p": pieces})
            self.assertIsNone(step_fault(step))
            back = turned(step)
            self.assertIsNone(step_fault(back))
            for tree in trees_of(old, 7, 5):
                self.assertEqual(led(back, led(step, tree)), tree)
        # Two made nodes within one another are too deep.
        deep = grammar_of("d: k g | l y\n e: i x y\n f: j e d x\n g: t f", kinds=KINDS)
        step = Step(old, deep, names, {**good, "p": (("node", "k"), ("node", "t"), ("node", "j"), ("part", 1),
                                                     ("part", 3), ("part", 2))})
        self.assertIsNone(step_fault(step))
        self.assertEqual(refusal(lambda: turned(step)), (NoBack, "p"))

    def test_the_first_label_in_the_old_order(self):
        old, new = grammar_of("a: p x | q x | r x"), grammar_of("a: k x | l x")
        names = {"a": "a", "x": "x"}

        def told(**labels):
            return refusal(lambda: turned(Step(old, new, names, {label: (("node", other), ("part", 1)) for label,
                other in labels.items()})))
        self.assertEqual(told(r="k", q="l"), (NoBack, "p"))
        self.assertEqual(told(r="k", q="k", p="k"), (NoBack, "q"))
        self.assertEqual(told(r="k", q="l", p="k"), (NoBack, "r"))
        self.assertEqual(told(r="l", p="k"), (NoBack, "q"))

    def test_of_a_bridge(self):
        old = grammar_of("a: p x y | q")
        middle, new = grammar_of("b: p y x | q"), grammar_of("b: r y x | s")
        one = Step(old, middle, {"a": "b", "x": "x", "y": "y"}, {"p": (("node", "p"), ("part", 2), ("part", 1)),
            "q": (("node", "q"),)})
        two = Step(middle, new, {"b": "b", "x": "x", "y": "y"}, {"p": (("node", "r"), ("part", 1), ("part", 2)),
            "q": (("node", "s"),)})
        back = turned(Bridge([one, two]))
        self.assertEqual(back, Bridge([turned(two), turned(one)]))
        tree = (("p",), (("x", "x"), ("y", "y")))
        self.assertEqual(led(back, led(Bridge([one, two]), tree)), tree)
        self.assertEqual(turned(Bridge()), Bridge())
        lost = Step(middle, new, {"b": "b"}, {"p": (("node", "s"),), "q": (("node", "s"),)})
        self.assertEqual(refusal(lambda: turned(Bridge([one, lost]))), (NoBack, "p"))

    def test_there_and_back(self):
        seen = 0
        for seed, step in enumerate(some_steps(31, 400, whole=True)):
            told = refusal(lambda: turned(step))
            if not isinstance(told, Step):
                self.assertIn(told[1], step.old().labels())
                continue
            seen += 1
            self.assertIsNone(step_fault(told))
            for tree in trees_of(step.old(), 6, seed, 8):
                other = plain_led(step, tree)
                if not isinstance(other[1], str):
                    self.assertEqual(led(told, other[0]), tree)
        self.assertGreater(seen, 0)

    def test_an_empty_part(self):
        # The one alternative of a rule has no symbols: nothing of it need stand anywhere.
        old = grammar_of("a: p b x | q x\n b: r")
        new = grammar_of("a: p x | q x\n b: r")
        step = Step(old, new, {"a": "a", "b": "b", "x": "x"}, {"p": (("node", "p"), ("part", 2)),
            "q": (("node", "q"), ("part", 1)), "r": (("node", "r"),)})
        tree = (("p", "r"), (("x", "x"),))
        self.assertEqual(led(turned(step), led(step, tree)), tree)
        # Of two alternatives nobody knows which one it was.
        two = grammar_of("a: p b x | q x\n b: r | s x")
        step = Step(two, two, {"a": "a", "b": "b", "x": "x"}, {"p": (("node", "q"), ("part", 2)), "r": (("node", "r"),)})
        self.assertIsNone(step_fault(step))
        self.assertEqual(refusal(lambda: turned(step)), (NoBack, "p"))


class Handed(unittest.TestCase):
    def test_nothing_is_changed(self):
        for step in some_steps(3, 8):
            for tree in trees_of(step.old(), 5, 1):
                held = copy.deepcopy(tree)
                refusal(lambda: led(step, tree))
                self.assertEqual(tree, held)
                first = refusal(lambda: led(step, tree, keep=True))
                if isinstance(first[1], dict):
                    first[1].clear()
                    first[2].clear()
                    self.assertEqual(refusal(lambda: led(step, tree, keep=True)), plain_led(step, tree))
        self.assertEqual(len(PAIRS), 5)
