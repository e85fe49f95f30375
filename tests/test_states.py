"""Points 70 to 73 and 80: what symbols begin with, split and merged states."""

import unittest
from random import Random

from tests.brute import signs
from tests.brute_grammars import BARRED, NAMED, SUMS, grammar_of, some_grammars
from tests.brute_lr import Plain
from tests.brute_reading import READ, renamed
from tongueyard.errors import Barred, TooMany
from tongueyard.grammars import END, Grammar
from tongueyard.states import STATES, begins_of, merged_states, split_states
from tongueyard.tables import table_of, why_ahead

SAMPLES = list(NAMED.values()) + list(READ.values()) + some_grammars(53, 60)
WIDE = grammar_of("""
    a: pa b x | pb c y | pc d z
    b: qa c | qb x c y
    c: ra d | rb x d y
    d: sa e | sb x e y
    e: ta z | tb x a y""", kinds=[(name, signs(name), False) for name in "xyz"])


def refused(call, *arguments, **named):
    try:
        return call(*arguments, **named)
    except TooMany as refusal:
        return ("many", refusal.limit)


class Begins(unittest.TestCase):
    def test_against_plain_ones(self):
        chance = Random(3)
        for grammar in SAMPLES:
            plain = Plain(grammar)
            for _ in range(30):
                symbols = tuple(chance.choice(plain.symbols) for _ in range(chance.randint(0, 4)))
                ahead = [chance.choice(["x", "z", END, "a", "", "Q", "p"]) for _ in range(chance.randint(0, 3))]
                kept = list(ahead)
                told = begins_of(grammar, symbols, ahead)
                self.assertEqual(told, sorted(plain.begins(symbols, ahead)))
                self.assertIs(type(told), list)
                self.assertEqual(ahead, kept)

    def test_by_hand(self):
        grammar = grammar_of("a: p b c y | q x\n b: r | s y\n c: t d\n d: u d\n e: v b b")
        self.assertEqual(begins_of(grammar, ("b",), ["z", "a", "z"]), ["a", "y", "z"])
        self.assertEqual(begins_of(grammar, ("e", "b"), []), ["y"])
        self.assertEqual(begins_of(grammar, (), ["z", ".", "z"]), [".", "z"])
        # A barren name begins with nothing, and ends the going through.
        self.assertEqual(begins_of(grammar, ("b", "d", "x"), ["z"]), ["y"])
        self.assertEqual(begins_of(grammar, ("d",), ["z"]), [])
        self.assertEqual(begins_of(grammar, ("c", "a"), ["z"]), [])
        self.assertEqual(begins_of(grammar, ("a", "d"), ["z"]), ["x"])
        self.assertEqual(begins_of(grammar, ("x", "d"), ["z"]), ["x"])
        self.assertEqual(begins_of(grammar, ("b", END, "x"), ["z"]), [END, "y"])

    def test_bars_ahead_of_all(self):
        for grammar in BARRED.values():
            for call in (lambda: begins_of(grammar, (), []), lambda: split_states(grammar, limit=1),
                         lambda: merged_states(grammar, limit=1), lambda: table_of(grammar, limit=1),
                         lambda: why_ahead(grammar, -1, "", "", limit=1)):
                with self.assertRaises(Barred) as caught:
                    call()
                self.assertEqual(caught.exception.label, grammar.bars()[0][0])


class States(unittest.TestCase):
    def test_against_a_slow_closing(self):
        seen = 0
        for grammar in SAMPLES + [WIDE]:
            plain = Plain(grammar)
            states, gos = plain.found(1000)
            split = [plain.told(state) for state in states]
            merged = [plain.told(state) for state in plain.merged(states, gos)[0]]
            self.assertEqual(split_states(grammar, limit=1000), split)
            self.assertEqual(merged_states(grammar, limit=1000), merged)
            self.assertEqual(refused(split_states, grammar), split if len(split) <= STATES else ("many", STATES))
            self.assertEqual(refused(merged_states, grammar), merged if len(merged) <= STATES else ("many", STATES))
            seen += len(split) > len(merged)
        self.assertGreater(seen, 5)
        self.assertEqual(STATES, 120)

    def test_at_the_limit_and_one_below(self):
        for grammar in SAMPLES + [WIDE]:
            for call in (split_states, merged_states):
                many = len(call(grammar, limit=1000))
                self.assertEqual(len(call(grammar, limit=many)), many)
                self.assertEqual(len(call(grammar, limit=10 ** 9)), many)
                for limit in range(1, many):
                    self.assertEqual(refused(call, grammar, limit=limit), ("many", limit))

    def test_by_hand(self):
        grammar = grammar_of("a: p b x | q y\n b: r")
        self.assertEqual(split_states(grammar), [
            ((END, 0, (END,)), ("p", 0, (END,)), ("q", 0, (END,)), ("r", 0, ("x",))),
            (("q", 1, (END,)),), ((END, 1, (END,)),), (("p", 1, (END,)),), (("p", 2, (END,)),)])
        # The whole stands first, then the labels in their order, those of one label by dot.
        grammar = grammar_of("b: s b a | t\n a: p x", begin="b")
        self.assertEqual(split_states(grammar)[1], ((END, 1, (END,)), ("s", 1, (END, "x")), ("p", 0, (END, "x"))))
        grammar = grammar_of("a: p a a | q x")
        told = split_states(grammar)[2]
        self.assertEqual([item[:2] for item in told if item[0] != END], [("p", 0), ("p", 1), ("q", 0)])
        self.assertEqual(split_states(READ["none"]), [()])
        self.assertEqual(merged_states(READ["none"], limit=1), [()])

    def test_split_ones_that_are_far_more(self):
        kinds = [(name, signs(name), False) for name in "xyzuvw"]
        # One rule in many surroundings: its states are split by what follows.
        rules = [("a", [("a" + one + other, (one, "b", other)) for one in "xyzu" for other in "vwxy"]),
                 ("b", [("bp", ("v", "b", "w")), ("bq", ("w", "b", "v")), ("br", ("x",)), ("bs", ("v", "c"))]),
                 ("c", [("cp", ("u", "c", "x")), ("cq", ("u",)), ("cr", ("y", "b"))])]
        grammar = Grammar(kinds, rules)
        merged = merged_states(grammar)
        self.assertLessEqual(len(merged), 40)
        split = split_states(grammar, limit=100000)
        self.assertGreater(len(split), len(merged) + 30)
        self.assertEqual(refused(split_states, grammar, limit=len(merged)), ("many", len(merged)))
        plain = Plain(grammar)
        states, gos = plain.found(1000)
        self.assertEqual(merged, [plain.told(state) for state in plain.merged(states, gos)[0]])

    def test_patterns_have_no_part_in_it(self):
        for grammar in SAMPLES[:30]:
            other = Grammar([(name, signs("ab"), skipped) for name, _, skipped in grammar.kinds()], grammar.rules(),
                            begin=grammar.begin())
            self.assertEqual(split_states(grammar, limit=500), split_states(other, limit=500))


class Alike(unittest.TestCase):
    """Point 80."""

    def test_called_otherwise(self):
        names = {"x": "yy", "y": "b"}
        names.update({name: name * 2 for name in "acde"}, b="zz")
        names.update({label: "l" + label for label in "klmnopqrstuvw"})
        for grammar in SAMPLES:
            other = renamed(grammar, names)
            for call in (split_states, merged_states):
                wanted = [tuple((names.get(label, label), dot, tuple(sorted(names.get(end, end) for end in ahead)))
                                for label, dot, ahead in state) for state in call(grammar, limit=500)]
                self.assertEqual(call(other, limit=500), wanted)

    def test_in_another_order(self):
        chance = Random(4)
        for grammar in SAMPLES:
            rules = [(name, chance.sample(alternatives, len(alternatives))) for name, alternatives in grammar.rules()]
            other = Grammar(grammar.kinds()[::-1], chance.sample(rules, len(rules)), begin=grammar.begin())
            for call in (split_states, merged_states):
                one, two = call(grammar, limit=500), call(other, limit=500)
                self.assertEqual(sorted(sorted(state) for state in one), sorted(sorted(state) for state in two))
                self.assertEqual(sorted(one[0]), sorted(two[0]))

    def test_the_same_asked_again_tells_lists_of_ones_own(self):
        for call in (split_states, merged_states):
            told = call(SUMS)
            wanted = list(told)
            told.clear()
            self.assertEqual(call(SUMS), wanted)
