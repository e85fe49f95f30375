"""Points 74 to 76 and 80: tables, clashes, and what each ahead is good for."""

import unittest
from random import Random

from tests.brute import signs
from tests.brute_grammars import NAMED, SUMS, grammar_of, some_grammars
from tests.brute_lr import Plain, called_by, plain_run, slow_table
from tests.brute_reading import READ, all_rows, renamed, slow_shapes
from tests.test_states import WIDE
from tongueyard.errors import Clash, NoItem, TooMany
from tongueyard.grammars import END, Grammar
from tongueyard.judge import lets_by
from tongueyard.known import ring
from tongueyard.states import merged_states, split_states
from tongueyard.tables import table_of, why_ahead

# Its merged states clash, its split ones don't.
SPLIT = grammar_of("a: p x b x | q y b y | r x c y | s y c x\n b: t z\n c: u z", kinds=[(name, signs(name), False) for name in "xyz"])
SAMPLES = list(NAMED.values()) + list(READ.values()) + some_grammars(54, 120) + [SPLIT, WIDE]


def told(grammar, **named):
    """("table", table), ("clash",) or ("many",); the fields of refusals are looked at here."""
    try:
        return "table", table_of(grammar, **named)
    except TooMany as refusal:
        assert refusal.limit == named.get("limit", 120)
        return ("many",)
    except Clash as clash:
        assert lets_by(grammar, ("clash", clash.one, clash.other, clash.at)), (grammar.rules(), vars(clash))
        assert type(clash.one) is tuple and type(clash.one[0]) is tuple
        return ("clash",)


class Tables(unittest.TestCase):
    def test_against_slow_ones(self):
        seen = {}
        for grammar in SAMPLES:
            wanted = slow_table(grammar, 120)
            self.assertEqual(told(grammar), wanted)
            seen[wanted[0]] = seen.get(wanted[0], 0) + 1
            if wanted[0] == "table":
                self.assertTrue(lets_by(grammar, wanted))
        self.assertGreater(min(seen["table"], seen["clash"]), 30)

    def test_limits(self):
        seen = set()
        for grammar in SAMPLES:
            for limit in list(range(1, 12)) + [20, 30]:
                wanted = slow_table(grammar, limit)
                self.assertEqual(told(grammar, limit=limit), wanted)
                seen.add((wanted[0], limit))
        self.assertLessEqual({("many", 3), ("clash", 5), ("table", 5)}, seen)

    def test_split_states_where_merged_ones_have_a_clash(self):
        self.assertLess(len(merged_states(SPLIT)), len(split_states(SPLIT)))
        table = table_of(SPLIT)
        self.assertEqual(list(table[0]), split_states(SPLIT))
        self.assertTrue(lets_by(SPLIT, ("table", table)))
        self.assertEqual(list(table_of(NAMED["half"])[0]), merged_states(NAMED["half"]))
        many = len(split_states(SPLIT))
        self.assertEqual(told(SPLIT, limit=many)[0], "table")
        self.assertEqual(told(SPLIT, limit=many - 1), ("many",))
        self.assertEqual(told(SPLIT, limit=len(merged_states(SPLIT)) - 1), ("many",))

    def test_kinds_with_two_trees_have_no_table(self):
        for grammar in SAMPLES:
            if ring(grammar) is not None:
                self.assertNotEqual(told(grammar)[0], "table")
            for row in all_rows(3, [name for name, _, _ in grammar.kinds()][:2]):
                shapes = slow_shapes(grammar, row)
                if shapes is None or len(shapes) > 1:
                    self.assertNotEqual(told(grammar)[0], "table")
                    if shapes:
                        self.assertTrue(lets_by(grammar, ("two", row, shapes[0], shapes[1])))

    def test_clashes_of_each_sort(self):
        for text in ("a: p x | q b\n b: r x", "a: p x a | q x | r x x a", "a: p | q b\n b: r", "a: p a | q x", "a: p b c | q x\n b: r | s x\n c: t | u x",
                     "a: p a a | q x", "a: p b | q c\n b: r x b | s x\n c: t x c | u x"):
            self.assertEqual(told(grammar_of(text)), ("clash",), text)

    def test_forms(self):
        table = table_of(SUMS)
        self.assertEqual((type(table), type(table[0]), type(table[1]), type(table[1][0])), (tuple, tuple, tuple, dict))
        table[1][0].clear()
        self.assertEqual(table_of(SUMS), table_of(SUMS))
        self.assertNotEqual(table_of(SUMS)[1][0], {})
        self.assertEqual(table_of(READ["none"], limit=1), (((),), ({},)))


class Alike(unittest.TestCase):
    """Point 80."""

    def test_called_otherwise(self):
        names = {"x": "yy", "y": "b", "b": "zz", "z": "a"}
        names.update({name: name * 2 for name in "acde"})
        names.update({label: "l" + label for label in "klmnopqrstuvw"})
        for grammar in SAMPLES:
            one = told(grammar)
            two = told(renamed(grammar, names))
            self.assertEqual(one[0], two[0])
            if one[0] == "table":
                states = tuple(tuple((names.get(label, label), dot, tuple(sorted(names.get(end, end) for end in ahead)))
                                     for label, dot, ahead in state) for state in one[1][0])
                deeds = tuple({names.get(symbol, symbol): (deed[0], names.get(deed[1], deed[1]), deed[2], names.get(deed[3], deed[3]))
                               if deed[0] == "by" else deed for symbol, deed in one.items()} for one in one[1][1])
                self.assertEqual(two[1], (states, deeds))

    def test_in_another_order(self):
        chance = Random(6)
        for grammar in SAMPLES:
            rules = [(name, chance.sample(alternatives, len(alternatives))) for name, alternatives in grammar.rules()]
            other = Grammar(grammar.kinds()[::-1], chance.sample(rules, len(rules)), begin=grammar.begin())
            one, two = told(grammar), told(other)
            self.assertEqual(one[0], two[0])
            if one[0] == "table":
                states = [sorted(state) for state in two[1][0]]
                order = [states.index(sorted(state)) for state in one[1][0]]
                again = called_by(two[1], order)
                self.assertEqual([sorted(state) for state in again[0]], [sorted(state) for state in one[1][0]])
                self.assertEqual(again[1], one[1][1])


def does_it(table, kinds, state, label, kind):
    """Whether the run by a table does that deed in that state while that kind is next."""
    deeds = table[1]
    stand = [0]
    for one in list(kinds) + [END]:
        while True:
            deed = deeds[stand[-1]].get(one)
            if one == kind and stand[-1] == state and deed == (("done",) if label == END else ("by", label) + deed[2:]):
                return True
            if deed[0] != "by":
                break
            del stand[len(stand) - deed[2]:]
            stand.append(deeds[stand[-1]][deed[3]][1])
        if deed[0] == "done":
            return False
        stand.append(deed[1])
    return False


class Whys(unittest.TestCase):
    def test_each_ahead_of_each_item(self):
        seen = 0
        for grammar in SAMPLES + some_grammars(55, 400):
            found = told(grammar)
            if found[0] != "table":
                continue
            table = found[1]
            for number, state in enumerate(table[0]):
                for label, dot, ahead in state:
                    whole = dot == (1 if label == END else len(grammar.row_of(label)))
                    for kind in [name for name, _, _ in grammar.kinds()] + [END, "z", "", "a"]:
                        if whole and kind in ahead:
                            kinds = why_ahead(grammar, number, label, kind)
                            self.assertIs(type(kinds), list)
                            self.assertEqual(plain_run(table, kinds)[0], "log")
                            self.assertTrue(does_it(table, kinds, number, label, kind), (kinds, number, label, kind))
                            seen += 1
                        elif whole:
                            self.assert_no_item(grammar, number, label, kind)
        self.assertGreater(seen, 400)

    def assert_no_item(self, grammar, state, label, kind):
        with self.assertRaises(NoItem) as caught:
            why_ahead(grammar, state, label, kind)
        self.assertEqual((caught.exception.state, caught.exception.label, caught.exception.kind), (state, label, kind))

    def test_no_item(self):
        table = table_of(SUMS)
        for number, state in enumerate(table[0]):
            whole = [label for label, dot, _ in state if dot == (1 if label == END else len(SUMS.row_of(label)))]
            for label in SUMS.labels() + [END, "z", "", "sum", "num"]:
                if label not in whole:
                    self.assert_no_item(SUMS, number, label, END)
        for state in (-1, len(table[0]), 10 ** 20, -10 ** 20):
            self.assert_no_item(SUMS, state, "one", END)
            self.assert_no_item(SUMS, state, END, END)
        self.assert_no_item(READ["none"], 0, "p", "x")
        self.assert_no_item(READ["unclean"], 0, "s", "x")

    def test_what_a_table_refuses_goes_first(self):
        self.assertRaises(Clash, why_ahead, READ["amb"], -1, "", "")
        with self.assertRaises(TooMany) as caught:
            why_ahead(SUMS, -1, "", "", limit=2)
        self.assertEqual(caught.exception.limit, 2)
        self.assertRaises(TooMany, why_ahead, SPLIT, 0, "t", "x", limit=len(split_states(SPLIT)) - 1)
