"""Point 149: tallies led over."""

import unittest
from random import Random

from tests.brute_bridges import plain_led, some_steps, some_words
from tests.brute_grammars import NAMED, SUMS, grammar_of, shapes_up_to
from tests.brute_worths import PlainTree, some_tallies
from tests.test_bridges import straight_step
from tests.test_deeds import BASE, some_deed
from tongueyard.bridges import Bridge, Step, step_fault
from tongueyard.deeds import done, turn
from tongueyard.errors import NoDeed, NoGrammar, NoTally
from tongueyard.ledtallies import led_tally
from tongueyard.tallies import completed, tally_of

OLD = grammar_of("a: p b x a | q y | r b b\n b: s x y | t\n c: u b y")
NEW = grammar_of("d: k x d e | l y | m e e y | n d | o e\n e: i x y | j | h x e\n f: g x e")
NAMES = {"a": "d", "b": "e", "x": "x", "y": "y"}
GOOD = {"p": (("node", "k"), ("part", 2), ("part", 3), ("part", 1)), "q": (("node", "l"), ("part", 1)),
        "r": (("node", "m"), ("part", 2), ("part", 1), ("word", "y", "y")),
        "s": (("node", "i"), ("part", 1), ("part", 2)), "t": (("node", "j"),)}
MARKS = [("n", "up", "number", ("a", "b", "c")), ("d", "down", "text", ("b",)), ("g", "up", "names", ("c",))]
SUMS_OF = [
    ("p", 0, "n", ("plus", ("at", 1, "n"), ("long", ("word", 2)))), ("p", 1, "d", ("join", ("word", 2), ("text", "!"))),
           ("q", 0, "n", ("long", ("word", 1))),
    ("r", 0, "n", ("most", ("at", 1, "n"), ("at", 2, "n"))), ("r", 1, "d", ("text", "one")),
           ("r", 2, "d", ("text", "two")),
    ("s", 0, "n", ("plus", ("long", ("at", 0, "d")), ("number", 7))), ("t", 0, "n", ("number", 3)),
           ("u", 1, "d", ("word", 2))]
TALLY = completed(OLD, MARKS, SUMS_OF)


def led_over(templates, names=None, tally=TALLY):
    step = Step(OLD, NEW, NAMES if names is None else names, {label: pieces for label,
        pieces in {**GOOD, **templates}.items() if pieces})
    assert step_fault(step) is None
    return led_tally(step, tally)


class Tallies(unittest.TestCase):
    def test_by_hand(self):
        marks, sums, lost = led_over({})
        self.assertEqual(marks, [("n", "up", "number", ("d", "e")), ("d", "down", "text", ("e",))])
        self.assertEqual(sums, [
            ("k", 0, "n", ("plus", ("at", 3, "n"), ("long", ("word", 1)))),
                                ("k", 3, "d", ("join", ("word", 1), ("text", "!"))),
                                ("l", 0, "n", ("long", ("word", 1))),
            ("m", 0, "n", ("most", ("at", 2, "n"), ("at", 1, "n"))), ("m", 2, "d", ("text", "one")),
                                ("m", 1, "d", ("text", "two")),
            ("i", 0, "n", ("plus", ("long", ("at", 0, "d")), ("number", 7))), ("j", 0, "n", ("number", 3))])
        self.assertEqual(lost, [("u", 0, "n"), ("u", 0, "g"), ("u", 1, "d")])
        for told in (marks, sums, lost):
            self.assertIs(type(told), list)

    def lost_of(self, templates, names=None):
        return led_over(templates, names)[2]

    def test_labels_that_are_not_led_plainly(self):
        always = [("u", 0, "n"), ("u", 0, "g"), ("u", 1, "d")]
        of_p = [("p", 0, "n"), ("p", 1, "d")]
        # No template; another one's begins alike, of both; a part twice in the first node.
        self.assertEqual(self.lost_of({"p": None}), of_p + always)
        self.assertEqual(self.lost_of({"t": (("node", "i"), ("word", "x", "x"), ("word", "y", "y"))}),
                         [("s", 0, "n"), ("t", 0, "n")] + always)
        self.assertEqual(self.lost_of({"r": (("node", "m"), ("part", 1), ("part", 1), ("word", "y", "y"))}),
                         [("r", 0, "n"), ("r", 1, "d"), ("r", 2, "d")] + always)
        # Once in the first node and again deeper is plain; what stands deeper alone goes nowhere.
        twice = {"p": (("node", "k"), ("part", 2), ("node", "o"), ("part", 1), ("part", 1))}
        self.assertEqual(self.lost_of(twice), always)
        self.assertEqual(led_over(twice)[1][:2], [("k", 0, "n", ("plus", ("at", 3, "n"), ("long", ("word", 1)))),
                                                  ("k", 3, "d", ("join", ("word", 1), ("text", "!")))])
        deep = {"p": (("node", "k"), ("part", 2), ("node", "o"), ("part", 1), ("node", "j"))}
        self.assertEqual(self.lost_of(deep), of_p + always)

    def test_places_that_go_nowhere(self):
        # p reads the word at 2, which is not taken here.
        gone = {"p": (("node", "k"), ("word", "x", "x"), ("part", 3), ("part", 1))}
        self.assertEqual(self.lost_of(gone)[:2], [("p", 0, "n"), ("p", 1, "d")])
        one = {"r": (("node", "m"), ("part", 2), ("node", "j"), ("word", "y", "y"))}
        marks, sums, lost = led_over(one)
        self.assertEqual(lost[:2], [("r", 0, "n"), ("r", 1, "d")])
        self.assertIn(("m", 1, "d", ("text", "two")), sums)

    def test_attributes_that_fall(self):
        grammar = grammar_of("a: p b\n b: q x\n c: r x")
        marks = [("n", "up", "number", ("a",)), ("k", "up", "number", ("b",)), ("d", "down", "number", ("b", "c")),
                 ("e", "up", "number", ("c", "a"))]
        tally = completed(grammar, marks, [("p", 0, "n", ("at", 1, "k")), ("p", 1, "d", ("number", 1)),
                                           ("p", 0, "e", ("plus", ("number", 1),
                                                          ("times", ("number", 2), ("at", 1, "k")))),
                                           ("q", 0, "k", ("at", 0, "d"))])
        new = grammar_of("a: p f\n f: s y\n c: r x")
        step = Step(grammar, new, {"a": "a", "x": "x", "c": "c"}, {"p": (("node", "p"), ("node", "s"),
            ("word", "y", "y")), "r": (("node", "r"), ("part", 1))})
        self.assertIsNone(step_fault(step))
        self.assertEqual(led_tally(step, tally), ([("n", "up", "number", ("a",)), ("d", "down", "number", ("c",)),
                                                   ("e", "up", "number", ("c", "a"))],
                                                  [("r", 0, "e", ("number", 0))],
                                                  [("p", 0, "n"), ("p", 0, "e"), ("p", 1, "d"), ("q", 0, "k")]))
        # A template that takes its part keeps its place, but the attribute is gone.
        taking = Step(grammar, grammar, {"a": "a", "b": "b", "x": "x"},
                      {"p": (("node", "p"), ("part", 1)), "q": (("node", "q"), ("part", 1))})
        alone = completed(grammar, [("c", "up", "number", ("c",)), ("u", "up", "number", ("b",))], [])
        self.assertEqual(led_tally(taking, alone), ([("u", "up", "number", ("b",))], [("q", 0, "u", ("number", 0))],
                                                    [("r", 0, "c")]))

    def test_names_twice_stand_once(self):
        # Only a step that is not right has such names.
        old, new = grammar_of("a: p\n b: q"), grammar_of("a: p")
        step = Step(old, new, {"a": "a", "b": "a"}, {})
        self.assertEqual(led_tally(step, completed(old, [("n", "up", "number", ("a", "b"))], []))[0],
                         [("n", "up", "number", ("a",))])

    def test_over_a_bridge(self):
        for bridge in (Bridge(), Bridge([straight_step(OLD, OLD)])):
            self.assertEqual(led_tally(bridge, TALLY), (list(TALLY[0]), list(TALLY[1]), []))
        one = straight_step(OLD, OLD)
        two = Step(OLD, NEW, NAMES, {label: pieces for label, pieces in GOOD.items() if label != "q"})
        told = led_tally(Bridge([one, two]), TALLY)
        self.assertEqual(told, led_tally(two, TALLY))
        # What is lost is told as it was at first, in the old order, at whichever step.
        grammar, bridge = turn(OLD, [("label", "r", "z"), ("turn", "p", (3, 2, 1)), ("drop", "t"), ("take", "z", 1),
                                     ("call", "b", "bb")])
        marks, sums, lost = led_tally(bridge, TALLY)
        self.assertEqual(marks, [("n", "up", "number", ("a", "bb", "c")), ("d", "down", "text", ("bb",)),
                                 ("g", "up", "names", ("c",))])
        self.assertEqual(lost, [("r", 0, "n"), ("r", 1, "d"), ("t", 0, "n")])
        self.assertIn(("p", 0, "n", ("plus", ("at", 3, "n"), ("long", ("word", 2)))), sums)
        self.assertIn(("z", 1, "d", ("text", "two")), sums)
        self.assertEqual(len(sums) + len(lost), len(TALLY[1]))

    def test_worths_are_kept(self):
        chance = Random(3)
        steps = [step for step in some_steps(41, 120, whole=True) if not step.old().bars()]
        grammars = [BASE, SUMS, NAMED["half"], NAMED["nullable"], NAMED["apart"], OLD]
        for number in range(500):
            grammar = grammars[number % len(grammars)]
            try:
                steps.append(done(grammar, some_deed(grammar, chance))[1])
            except (NoDeed, NoGrammar):
                continue
        kept = sum(self.check_kept(step, chance) for step in steps)
        self.assertGreater(kept, 300)

    def check_kept(self, step, chance):
        many = 0
        for tally in some_tallies(step.old(), chance.randint(0, 99), 2):
            marks, sums, lost = led_tally(step, tally)
            try:
                made = tally_of(step.new(), marks, sums)
            except NoTally:
                continue
            losing = {one[0] for one in lost}
            for shape in sorted(shapes_up_to(step.old(), 5))[:6]:
                tree = (shape, some_words(step.old(), shape, chance))
                if any(label in losing or not is_plain(step, label) for label in shape):
                    continue
                many += self.check_tree(step, (tally, made), tree)
        return many

    def check_tree(self, step, tallies, tree):
        led_one = plain_led(step, tree)
        if isinstance(led_one[1], str):
            return 0
        given = tuple((mark[0], 5) for mark in tallies[0][0] if mark[1] == "down" and step.old().begin() in mark[3])
        left = tuple(pair for pair in given if any(mark[0] == pair[0] for mark in tallies[1][0]))
        old = PlainTree(step.old(), tallies[0], tree, given)
        new = PlainTree(step.new(), tallies[1], led_one[0], left)
        if old.has_ring or new.has_ring:
            return 0
        attributes = [mark[0] for mark in tallies[1][0]]
        for at, node in led_one[1].items():
            for attribute in attributes:
                if (node, attribute) in old.rows:
                    self.assertEqual(new.rows[(at, attribute)], old.rows[(node, attribute)])
        return 1


def is_plain(step, label):
    """Whether a label is led plainly, by a template without a within in which no part stands twice."""
    pieces = step.templates().get(label)
    if pieces is None or any(piece[0] == "within" for piece in pieces):
        return False
    if [step.leads(other) for other in step.templates()].count(pieces[0][1]) > 1:
        return False
    taken = [piece for piece in pieces if piece[0] == "part"]
    return len(set(taken)) == len(taken)
