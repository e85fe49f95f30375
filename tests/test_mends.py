"""Points 85 to 90: deeds on rows, the fewest that make a row a text, lows, and the papers of both."""

import copy
import unittest

from tests.bent import ANYTHING, check_form
from tests.brute import signs
from tests.brute_grammars import BARRED, NAMED, SUMS, grammar_of, some_grammars
from tests.brute_mends import distance, slow_fewest, slow_lows
from tests.brute_reading import READ, all_rows, barren_rules, texts_up_to, turned
from tongueyard.charts import Chart
from tongueyard.errors import Barred, NoDeeds, NoMend
from tongueyard.grammars import Grammar
from tongueyard.judge import lets_by
from tongueyard.judge_mends import mends_hold
from tongueyard.mends import fewest, mend, mend_paper, mended
from tongueyard.mendtables import lows, nofewer_paper
from tongueyard.trees import is_shape

SAMPLES = list(NAMED.values())[1:] + list(READ.values()) + some_grammars(51, 40)
KEEP, DROP = ("keep",), ("drop",)


def refused(row, deeds):
    try:
        return mended(row, deeds)
    except NoDeeds as refusal:
        return refusal.at


def cost(deeds):
    return sum(deed != KEEP for deed in deeds)


class Deeds(unittest.TestCase):
    def test_that_fit(self):
        row = ["x", "y", "x"]
        self.assertEqual(mended(row, [KEEP, DROP, ("turn", "num")]), ["x", "num"])
        self.assertEqual(mended(row, [("put", "a"), KEEP, ("put", "x"), ("put", "x"), KEEP, KEEP, ("put", "z")]),
                         ["a", "x", "x", "x", "y", "x", "z"])
        self.assertEqual(mended([], []), [])
        self.assertEqual(mended([], [("put", "z")]), ["z"])
        self.assertEqual(mended(["", "."], [KEEP, DROP]), [""])
        self.assertEqual(row, ["x", "y", "x"])

    def test_left_out_twice_or_another_one(self):
        row = ["x", "y", "x"]
        deeds = [KEEP, ("turn", "x"), ("put", "y"), DROP]
        self.assertEqual(refused(row, deeds), ["x", "x", "y"])
        self.assertEqual(refused(row, deeds[1:]), 0)
        self.assertEqual(refused(row, deeds[:1] + deeds[2:]), 3)
        self.assertEqual(refused(row, deeds[:2] + deeds[3:]), ["x", "x"])
        self.assertEqual(refused(row, deeds[:3]), 3)
        self.assertEqual(refused(row, deeds + [KEEP]), 4)
        self.assertEqual(refused(row, deeds + [DROP]), 4)
        self.assertEqual(refused(row, deeds + [("turn", "z")]), 4)
        self.assertEqual(refused(row, deeds[:1] * 2 + deeds[1:]), 2)
        self.assertEqual(refused(row, [KEEP, ("turn", "y"), KEEP]), 1)
        self.assertEqual(refused(row, []), 0)
        self.assertEqual(refused(row, [("put", "z")]), 1)

    def test_things_that_are_none(self):
        for thing in ANYTHING + [("keep", "x"), ("keep", None), ("drop", "x"), ("put",), ("put", "x", "y"), ("turn",), ("turn", "x", "y"),
                                 ("Keep",), ["keep"], ("put", ""), ("put", "X"), ("put", None), ("put", 1), ("put", ("x",)),
                                 ("put", "word"), ("put", "abcdefghi"), ("put", "."), ("turn", ""), ("turn", b"y"), "keep",
                                 ("put", ["x"]), ("other", "x"), ("keeps",), (None,), ((),), (["keep"],)]:
            self.assertEqual(refused(["x", "y"], [KEEP, thing, KEEP]), 1, thing)
            self.assertEqual(refused(["x"], [KEEP, KEEP, thing]), 1, thing)
            self.assertEqual(refused([], [thing]), 0, thing)
            self.assertFalse(lets_by(SUMS, ("mend", ("num",), (KEEP, thing), ("one", "leaf"))))

    def test_what_is_handed_in_stays(self):
        row, deeds = ["x", "y"], [DROP, KEEP]
        told = mended(row, deeds)
        told.append("z")
        self.assertEqual((row, deeds, mended(row, deeds)), (["x", "y"], [DROP, KEEP], ["y"]))


class Fewest(unittest.TestCase):
    def test_against_a_slow_search(self):
        for grammar in SAMPLES:
            texts = texts_up_to(grammar, 7)
            for row in all_rows(3):
                row = list(row)
                if grammar.begin() in barren_rules(grammar):
                    for call in (fewest, mend, mend_paper, lows, nofewer_paper):
                        self.assertRaises(NoMend, call, grammar, row)
                    continue
                many = fewest(grammar, row)
                # A text of more kinds needs more deeds than are told.
                if many + len(row) <= 7:
                    self.assertEqual(many, slow_fewest(texts, row))
                deeds = mend(grammar, row)
                self.assertIs(type(deeds), list)
                self.assertEqual(cost(deeds), many)
                made = mended(row, deeds)
                self.assertTrue(Chart(grammar, made).reads())
                self.assertEqual(many == 0, Chart(grammar, row).reads())

    def test_rows_with_texts_that_are_no_kinds(self):
        kinds = [("x", signs("x"), False), ("gap", signs(" "), True), ("y", signs("y"), False)]
        grammar = Grammar(kinds, [("a", [("p", ("x", "a")), ("q", ("b",))]), ("b", [("r", ("y",))])])
        for row, many in ((["gap"], 1), (["gap", "gap"], 1 + 1), (["a", "y"], 1), (["", ".", "x"], 3), (["x", "b"], 1), (["p"], 1)):
            self.assertEqual(fewest(grammar, row), many)
            self.assertFalse(any(deed[1:] == ("gap",) for deed in mend(grammar, row)))
            self.assertTrue(lets_by(grammar, mend_paper(grammar, row)))
            self.assertTrue(lets_by(grammar, nofewer_paper(grammar, row)))

    def test_by_hand(self):
        self.assertEqual((fewest(SUMS, ["num", "num"]), fewest(SUMS, []), fewest(SUMS, ["plus"])), (1, 0, 0))
        grammar = grammar_of("a: p x y x y | q y y")
        self.assertEqual((fewest(grammar, []), mend(grammar, [])), (2, [("put", "y"), ("put", "y")]))
        self.assertEqual(fewest(grammar, ["x"] * 4), 2)
        self.assertEqual(fewest(grammar, ["x"] * 12), 10)
        self.assertEqual(mend(grammar, ["x", "y", "z", "x", "y"]), [KEEP, KEEP, DROP, KEEP, KEEP])

    def test_twelve_kinds(self):
        for grammar in SAMPLES[:30]:
            if grammar.begin() in barren_rules(grammar):
                continue
            row = ["x", "y", "y", "x", "z", "x", "x", "y", "x", "y", "y", ""]
            deeds = mend(grammar, row)
            self.assertEqual(cost(deeds), fewest(grammar, row))
            self.assertTrue(Chart(grammar, mended(row, deeds)).reads())
            self.assertTrue(lets_by(grammar, mend_paper(grammar, row)))
            self.assertTrue(lets_by(grammar, nofewer_paper(grammar, row)))

    def test_bars_are_refused_ahead_of_all(self):
        for grammar in BARRED.values():
            for call in (fewest, mend, mend_paper, lows, nofewer_paper):
                with self.assertRaises(Barred) as caught:
                    call(grammar, ["z"])
                self.assertEqual(caught.exception.label, grammar.bars()[0][0])


class Alike(unittest.TestCase):
    """Point 87."""

    def test_rows_that_differ_and_grammars_that_differ(self):
        for grammar in SAMPLES:
            if grammar.begin() in barren_rules(grammar):
                continue
            texts = texts_up_to(grammar, 6)
            rows = all_rows(3)[::2]
            told = {row: fewest(grammar, list(row)) for row in rows}
            for row in rows:
                if texts:
                    self.assertLessEqual(told[row], max(len(row), len(texts[0])))
                self.assertEqual(told[row], fewest(turned(grammar), list(row[::-1])))
                for other in rows:
                    self.assertLessEqual(abs(told[row] - told[other]), distance(row, other))
            for more in (("y", "y"), ("x", "a", "x"), ()):
                rules = [(name, alternatives + ([("new", more)] if name == "a" else [])) for name, alternatives in grammar.rules()]
                if "a" in dict(rules):
                    wider = Grammar(grammar.kinds(), rules, begin=grammar.begin())
                    self.assertTrue(all(fewest(wider, list(row)) <= told[row] for row in rows))


class Lows(unittest.TestCase):
    def test_against_a_slow_search(self):
        for grammar in SAMPLES:
            if grammar.begin() in barren_rules(grammar):
                continue
            for row in [("x",), ("y", "x"), ("y", "z", "x")]:
                told = lows(grammar, list(row))
                wanted = slow_lows(grammar, row, 7)
                self.assertEqual([one[:4] for one in told], [one[:4] for one in wanted])
                for one, other in zip(told, wanted):
                    # Where all is too long for the slow search, more deeds are told.
                    if other[4] is None or one[4] + other[3] - other[2] > 7:
                        self.assertGreater(one[4] + other[3] - other[2], 7)
                    else:
                        self.assertEqual(one, other)

    def test_by_hand(self):
        grammar = grammar_of("a: z x b\n b: y")
        self.assertEqual(lows(grammar, ["x"]), (
            ("z", 0, 0, 0, 0), ("z", 0, 1, 1, 0), ("z", 1, 0, 0, 1), ("z", 1, 0, 1, 0), ("z", 1, 1, 1, 1), ("z", 2, 0, 0, 1),
            ("z", 2, 0, 1, 0), ("z", 2, 1, 1, 1), ("y", 0, 0, 0, 0), ("y", 0, 0, 1, 1), ("y", 0, 1, 1, 0)))
        self.assertEqual(lows(grammar_of("a: p x d | q y\n d: r d"), []), (("q", 0, 0, 0, 0), ("q", 1, 0, 0, 1)))

    def test_grammars_that_begin_with_a_rule_of_just_these_symbols(self):
        for grammar in SAMPLES[:40]:
            if grammar.begin() in barren_rules(grammar):
                continue
            row = ["y", "x", "x"]
            for label, dot, first, behind, low in lows(grammar, row):
                if dot > 0:
                    symbols = grammar.row_of(label)[:dot]
                    other = Grammar(grammar.kinds(), [("first", [("new", symbols)])] + grammar.rules())
                    self.assertEqual(low, fewest(other, row[first:behind]))


class NoFewer(unittest.TestCase):
    def test_told_ones_and_bent_ones(self):
        for grammar in SAMPLES:
            if grammar.begin() in barren_rules(grammar):
                continue
            for row in [(), ("x",), ("y", "x", "z")]:
                paper = nofewer_paper(grammar, list(row))
                self.assertEqual(paper, ("nofewer", row, fewest(grammar, list(row)), lows(grammar, list(row))))
                self.assertTrue(lets_by(grammar, paper))
                self.assertTrue(mends_hold(grammar, paper))
                self.assertTrue(lets_by(grammar, paper[:2] + (paper[2] - 1,) + paper[3:]))
                self.assertTrue(lets_by(grammar, paper[:2] + (-7,) + paper[3:]))
                self.assertFalse(lets_by(grammar, paper[:2] + (paper[2] + 1,) + paper[3:]))
                table = paper[3]
                for at in range(0, len(table), 3):
                    self.check(grammar, paper, table[:at] + (table[at][:4] + (table[at][4] + 1,),) + table[at + 1:])
                    self.check(grammar, paper, table[:at] + (table[at][:4] + (table[at][4] - 1,),) + table[at + 1:])
                    for other in (table[:at] + table[at + 1:], table[:at + 1] + table[at:],
                                  table[:at] + table[at + 1:at + 2] + table[at:at + 1] + table[at + 2:]):
                        if other != table:
                            self.assertFalse(lets_by(grammar, paper[:3] + (other,)))

    def check(self, grammar, paper, table):
        """What is told of a table with one other low, by a plain look at each place."""
        wanted = plain_lows_hold(grammar, paper[1], paper[2], table)
        self.assertEqual(lets_by(grammar, paper[:3] + (table,)), wanted)

    def test_no_table_shows_more_than_a_mend_costs(self):
        for grammar in SAMPLES[:25]:
            if grammar.begin() in barren_rules(grammar):
                continue
            row = ("y", "x")
            many, table = nofewer_paper(grammar, list(row))[2:]
            for more in (1, 2, 5):
                raised = tuple(one[:4] + (one[4] + more,) for one in table)
                self.assertFalse(lets_by(grammar, ("nofewer", row, many + 1, raised)))
                lowered = tuple(one[:4] + (one[4] - more,) for one in table)
                self.assertEqual(lets_by(grammar, ("nofewer", row, many - more, lowered)),
                                 plain_lows_hold(grammar, row, many - more, lowered))

    def test_forms(self):
        grammar = grammar_of("a: p x b | q\n b: r y a")
        paper = nofewer_paper(grammar, ["y", "x"])
        check_form(self, grammar, paper, 120)
        self.assertFalse(lets_by(grammar, ("nofewer", ("y",) * 10 ** 5, 0, ())))
        self.assertFalse(lets_by(READ["none"], ("nofewer", (), 0, ())))
        self.assertFalse(lets_by(READ["none"], ("nofewer", (), -1, ())))
        for bars in BARRED.values():
            self.assertFalse(mends_hold(bars, paper))


def plain_lows_hold(grammar, row, many, table):
    """Point 89 place by place."""
    labels = {name: [label for label, _ in alternatives] for name, alternatives in grammar.rules()}
    told = {one[:4]: one[4] for one in table}
    rows = {label: grammar.row_of(label) for label in grammar.labels()}

    def symbol_low(symbol, first, behind):
        if symbol in labels:
            return min(told[(label, len(rows[label]), first, behind)] for label in labels[symbol]
                       if (label, len(rows[label]), first, behind) in told)
        if first == behind:
            return 1
        return behind - first - (symbol in row[first:behind])

    for (label, dot, first, behind), low in told.items():
        if dot == 0 and low > behind - first:
            return False
        for middle in range(first, behind + 1):
            if dot > 0 and (label, dot - 1, first, middle) in told:
                if low > told[(label, dot - 1, first, middle)] + symbol_low(rows[label][dot - 1], middle, behind):
                    return False
    return many <= symbol_low(grammar.begin(), 0, len(row))


class Mends(unittest.TestCase):
    def test_told_ones_and_bent_ones(self):
        for grammar in SAMPLES:
            if grammar.begin() in barren_rules(grammar):
                continue
            for row in all_rows(2) + [("y", "z", "x", "x")]:
                paper = mend_paper(grammar, list(row))
                word, told, deeds, shape = paper
                self.assertEqual((word, told), ("mend", row))
                self.assertEqual(cost(deeds), fewest(grammar, list(row)))
                self.assertTrue(lets_by(grammar, paper))
                others = [deeds[:at] + deeds[at + 1:] for at in range(len(deeds))]
                others += [deeds + (("put", "x"),), deeds + (KEEP,), (("put", "y"),) + deeds, (DROP,) + deeds]
                for other in others:
                    made = refused(list(row), list(other))
                    wanted = isinstance(made, list) and is_shape(grammar, shape, made)
                    self.assertEqual(lets_by(grammar, ("mend", row, other, shape)), wanted)
                for other in (shape[:-1], shape + shape[:1], ("z",), shape[::-1]):
                    self.assertEqual(lets_by(grammar, ("mend", row, deeds, other)),
                                     is_shape(grammar, other, mended(list(row), list(deeds))))

    def test_costly_ones_hold_too(self):
        paper = ("mend", ("num",), (DROP, ("put", "num"), ("put", "plus")), ("both", "one", "leaf", "none"))
        self.assertTrue(lets_by(SUMS, paper))
        self.assertTrue(mends_hold(SUMS, paper))
        check_form(self, SUMS, paper)
        for deeds in ((("keep", "num"),), (("turn", "num"),), (KEEP, ("drop", "x")), (("other", "x"), KEEP), (KEEP, ("put", "num", "x")),
                      (KEEP, KEEP), (), (("keep",), ()), (("put", "num"),)):
            self.assertFalse(lets_by(SUMS, ("mend", ("num",), deeds, ("one", "leaf"))), deeds)
        self.assertFalse(lets_by(SUMS, ("mend", ("num", "num"), (KEEP, ("drop", "x")), ("one", "leaf"))))
        self.assertFalse(lets_by(SUMS, ("mend", ("num", "num"), (KEEP, ("other", "x")), ("one", "leaf"))))
        self.assertTrue(lets_by(SUMS, ("mend", ("num", "num"), (KEEP, DROP), ("one", "leaf"))))
        for bars in BARRED.values():
            plain = Grammar(bars.kinds(), bars.rules(), begin=bars.begin())
            for other in (mend_paper(plain, ["x"]), nofewer_paper(plain, ["x"])):
                self.assertTrue(mends_hold(plain, other))
                self.assertFalse(mends_hold(bars, other))

    def test_the_same_asked_again(self):
        for grammar in SAMPLES[:20]:
            if grammar.begin() in barren_rules(grammar):
                continue
            row = ["y", "x", "z"]
            kept = copy.deepcopy(row)
            for call in (fewest, mend, mend_paper, lows, nofewer_paper):
                self.assertEqual(call(grammar, row), call(grammar, row))
            mend(grammar, row).append(KEEP)
            self.assertEqual(row, kept)
