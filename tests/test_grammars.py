"""Points 25, 26 and 27: grammars, their refusals and what they tell."""

import unittest

from tests.brute import EMPTY, LANGUAGE, again, either, maybe, more, signs, then, word
from tongueyard.errors import NoGrammar, NoLabel, NoName, YardError
from tongueyard.grammars import END, Grammar

LETTERS = "abcdefghijklmnopqrstuvwxyz"
KINDS = [("num", more(signs("0123456789")), False), ("plus", signs("+"), False), ("blank", signs(" "), True)]
RULES = [("sum", [("one", ("term",)), ("both", ("sum", "plus", "term"))]), ("term", [("leaf", ("num",)), ("none", ())])]


def names(many, stem=""):
    return [stem + a + b for a in LETTERS for b in LETTERS][:many]


def refused(kinds, rules, **more_arguments):
    """What a grammar is refused with, or None."""
    try:
        Grammar(kinds, rules, **more_arguments)
    except NoGrammar as refusal:
        return refusal.what, refusal.name
    return None


def kinds_of(many, with_signs=1):
    return [(name, then(*[signs("a")] * with_signs), False) for name in names(many)]


def rules_of(many, with_alternatives=1):
    labels = iter(names(676, "q"))
    return [(name, [(next(labels), ()) for _ in range(with_alternatives)]) for name in names(many, "r")]


class Right(unittest.TestCase):
    def test_what_is_told(self):
        grammar = Grammar(KINDS, RULES, bars=(("both", 3, "none"), ("one", 1, "leaf")))
        self.assertEqual(grammar.kinds(), KINDS)
        self.assertEqual(grammar.rules(), RULES)
        self.assertEqual(grammar.begin(), "sum")
        self.assertEqual(grammar.bars(), (("both", 3, "none"), ("one", 1, "leaf")))
        self.assertEqual(grammar.labels(), ["one", "both", "leaf", "none"])
        self.assertEqual(grammar.labels_of("sum"), ["one", "both"])
        self.assertEqual(grammar.labels_of("term"), ["leaf", "none"])
        self.assertEqual(grammar.row_of("both"), ("sum", "plus", "term"))
        self.assertEqual(grammar.row_of("none"), ())
        self.assertEqual(grammar.rule_of("both"), "sum")
        self.assertEqual(grammar.rule_of("none"), "term")
        self.assertEqual(len(grammar), 4)
        self.assertEqual(repr(grammar), "Grammar('sum', 4)")

    def test_the_beginning(self):
        grammar = Grammar(KINDS, RULES, begin="term")
        self.assertEqual(grammar.begin(), "term")
        self.assertEqual(repr(grammar), "Grammar('term', 4)")
        self.assertEqual(Grammar(KINDS, RULES).begin(), "sum")
        self.assertEqual(Grammar(KINDS, RULES).bars(), ())

    def test_kinds_skipped_ones_too(self):
        grammar = Grammar(KINDS, RULES)
        for name in ("num", "plus", "blank"):
            self.assertIs(grammar.is_kind(name), True)
        for name in ("sum", "term", "one", "", END, "blanks", "Num", "word"):
            self.assertIs(grammar.is_kind(name), False)

    def test_names_that_there_are_not(self):
        grammar = Grammar(KINDS, RULES)
        for name in ("num", "one", "", "sums", END):
            with self.assertRaises(NoName) as caught:
                grammar.labels_of(name)
            self.assertEqual(caught.exception.name, name)
        for label in ("sum", "num", "", "ones", END):
            for ask in (grammar.row_of, grammar.rule_of):
                with self.assertRaises(NoLabel) as caught:
                    ask(label)
                self.assertEqual(caught.exception.label, label)

    def test_end(self):
        self.assertEqual(END, ".")

    def test_labels_may_be_called_as_rules_and_kinds(self):
        rules = [("sum", [("sum", ("num",)), ("num", ()), ("blank", ("num",))])]
        self.assertEqual(Grammar(KINDS, rules).labels(), ["sum", "num", "blank"])

    def test_rules_may_stand_in_rules_ahead_and_in_themselves_alone(self):
        rules = [("a", [("x", ("b", "a", "b"))]), ("b", [("y", ("b",))])]
        self.assertEqual(Grammar(KINDS, rules).rules(), rules)


class Refused(unittest.TestCase):
    def test_no_kind_or_no_rule(self):
        self.assertEqual(refused([], RULES), ("many", None))
        self.assertEqual(refused(KINDS, []), ("many", None))
        self.assertEqual(refused([], []), ("many", None))

    def test_kinds(self):
        self.assertIsNone(refused(kinds_of(14), rules_of(1)))
        self.assertEqual(refused(kinds_of(15), rules_of(1)), ("many", None))
        self.assertEqual(refused(kinds_of(600), rules_of(1)), ("many", None))

    def test_signs(self):
        self.assertIsNone(refused(kinds_of(10, 4), rules_of(1)))
        self.assertEqual(refused(kinds_of(10, 4) + [("more", signs("b"), False)], rules_of(1)), ("many", None))
        ten = then(*[signs("a")] * 10)
        forty = either(ten, ten, ten, ten)
        self.assertIsNone(refused([("x", forty, False)], rules_of(1)))
        self.assertIsNone(refused([("x", then(forty, again(EMPTY)), False)], rules_of(1)))
        for beyond in (then(forty, maybe(signs("b"))), either(signs("b"), forty), more(then(forty, signs("b")))):
            self.assertEqual(refused([("x", beyond, False)], rules_of(1)), ("many", None))

    def test_signs_are_counted_by_their_tuples(self):
        self.assertIsNone(refused([("x", signs(LETTERS), False), ("y", signs(LETTERS), True)], rules_of(1)))

    def test_rules(self):
        self.assertIsNone(refused(KINDS, rules_of(40)))
        self.assertEqual(refused(KINDS, rules_of(41)), ("many", None))
        self.assertEqual(refused(KINDS, rules_of(500)), ("many", None))

    def test_alternatives(self):
        self.assertIsNone(refused(KINDS, rules_of(20, 5)))
        self.assertIsNone(refused(KINDS, rules_of(1, 100)))
        self.assertEqual(refused(KINDS, rules_of(1, 101)), ("many", None))
        self.assertEqual(refused(KINDS, rules_of(20, 5) + [("z", [("last", ())])]), ("many", None))

    def test_bars(self):
        rules = [("a", [(label, ("a",) * 6) for label in ("x", "y", "z")])]
        bars = tuple((one, place, other) for one in "xyz" for place in range(1, 7) for other in "xyz")
        self.assertIsNone(refused(KINDS, rules, bars=bars[:30]))
        self.assertEqual(refused(KINDS, rules, bars=bars[:31]), ("many", None))
        self.assertEqual(refused(KINDS, rules, bars=bars[:1] * 31), ("many", None))

    def test_names_of_kinds(self):
        for name in ("", "Num", "word", "skip", "rule", "top", "bar", "abcdefghi", "a1", ".", "a b"):
            self.assertEqual(refused([("x", signs("x"), False), (name, signs("a"), False)], rules_of(1)), ("name", name))

    def test_kinds_called_alike(self):
        self.assertEqual(refused([("x", signs("x"), False), ("x", signs("a"), True)], rules_of(1)), ("twice", "x"))

    def test_kinds_that_spell_no_signs(self):
        for pattern in (EMPTY, again(signs("a")), maybe(signs("a")), either(signs("a"), EMPTY), more(EMPTY)):
            self.assertEqual(refused([("x", pattern, False)], rules_of(1)), ("empty", "x"))
            self.assertIsNone(refused([("x", then(pattern, signs("a")), False)], rules_of(1)))

    def test_names_of_rules(self):
        for name in ("", "Sum", "word", "top", "abcdefghi", "a1"):
            self.assertEqual(refused(KINDS, [("a", [("x", ())]), (name, [("y", ())])]), ("name", name))

    def test_rules_called_alike_or_as_a_kind(self):
        self.assertEqual(refused(KINDS, [("a", [("x", ())]), ("a", [("y", ())])]), ("twice", "a"))
        self.assertEqual(refused(KINDS, [("a", [("x", ())]), ("plus", [("y", ())])]), ("twice", "plus"))
        self.assertEqual(refused(KINDS, [("blank", [("x", ())])]), ("twice", "blank"))

    def test_bare_rules(self):
        self.assertEqual(refused(KINDS, [("a", [("x", ("b",))]), ("b", [])]), ("bare", "b"))

    def test_labels(self):
        for label in ("", "Sum", "bar", "rule", "abcdefghi", "a1", END):
            self.assertEqual(refused(KINDS, [("a", [("x", ()), (label, ())])]), ("label", label))
        self.assertEqual(refused(KINDS, [("a", [("x", ()), ("y", ()), ("x", ("a",))])]), ("again", "x"))
        self.assertEqual(refused(KINDS, [("a", [("x", ())]), ("b", [("y", ()), ("x", ())])]), ("again", "x"))

    def test_long_rows(self):
        self.assertIsNone(refused(KINDS, [("a", [("x", ("num",) * 6)])]))
        self.assertEqual(refused(KINDS, [("a", [("x", ("num",) * 7)])]), ("long", "x"))
        self.assertEqual(refused(KINDS, [("a", [("x", ("num",) * 900)])]), ("long", "x"))

    def test_symbols(self):
        for symbol in ("b", "x", "", END, "nums"):
            self.assertEqual(refused(KINDS, [("a", [("x", ("num", symbol))])]), ("symbol", symbol))
        self.assertEqual(refused(KINDS, [("a", [("x", ("num", "blank"))])]), ("skipped", "blank"))

    def test_begin(self):
        for begin in ("num", "one", "", "sums", END):
            self.assertEqual(refused(KINDS, RULES, begin=begin), ("begin", begin))

    def test_each_bar(self):
        for bar in (("sum", 1, "one"), ("ones", 1, "leaf"), ("", 1, "leaf"), ("both", 0, "one"), ("both", 4, "leaf"),
                    ("both", -1, "leaf"), ("both", 2, "leaf"), ("both", 3, "one"), ("both", 1, "leaf"),
                    ("both", 1, "sum"), ("both", 1, ""), ("none", 1, "leaf"), ("leaf", 1, "leaf"), ("one", 2, "leaf")):
            self.assertEqual(refused(KINDS, RULES, bars=(bar,)), ("bar", bar[0]), bar)
            good = ("one", 1, "none")
            self.assertEqual(refused(KINDS, RULES, bars=(good, bar, ("w", 1, "w"))), ("bar", bar[0]), bar)
        for bar in (("both", 1, "one"), ("both", 1, "both"), ("both", 3, "leaf"), ("one", 1, "leaf")):
            self.assertIsNone(refused(KINDS, RULES, bars=(bar,)), bar)
            self.assertEqual(refused(KINDS, RULES, bars=(bar, bar)), ("bar", bar[0]), bar)


class Order(unittest.TestCase):
    """Where several hold, the first of them is told."""

    def test_many_goes_ahead_of_all(self):
        self.assertEqual(refused([("Bad", EMPTY, False)] * 15, rules_of(1)), ("many", None))
        self.assertEqual(refused([("Bad", EMPTY, False)], rules_of(41)), ("many", None))
        self.assertEqual(refused([("Bad", EMPTY, False)], rules_of(1), bars=(("x", 1, "y"),) * 31), ("many", None))
        self.assertEqual(refused([("Bad", EMPTY, False)], []), ("many", None))

    def test_of_one_kind_the_name_then_twice_then_empty(self):
        self.assertEqual(refused([("Bad", EMPTY, False), ("Bad", EMPTY, False)], rules_of(1)), ("name", "Bad"))
        self.assertEqual(refused([("x", signs("a"), False), ("x", EMPTY, False)], rules_of(1)), ("twice", "x"))
        self.assertEqual(refused([("x", EMPTY, False), ("x", signs("a"), False)], rules_of(1)), ("empty", "x"))
        self.assertEqual(refused([("x", EMPTY, False), ("Bad", signs("a"), False)], rules_of(1)), ("empty", "x"))

    def test_kinds_go_ahead_of_rules(self):
        self.assertEqual(refused([("x", EMPTY, False)], [("Bad", [])]), ("empty", "x"))

    def test_of_one_rule_the_name_then_twice_then_bare_then_its_alternatives(self):
        self.assertEqual(refused(KINDS, [("Bad", []), ("Bad", [])]), ("name", "Bad"))
        self.assertEqual(refused(KINDS, [("a", [("x", ())]), ("a", [])]), ("twice", "a"))
        self.assertEqual(refused(KINDS, [("a", []), ("Bad", [])]), ("bare", "a"))
        self.assertEqual(refused(KINDS, [("a", [("Bad", ())]), ("a", [])]), ("label", "Bad"))

    def test_of_one_alternative_the_label_then_again_then_long(self):
        seven = ("num",) * 7
        self.assertEqual(refused(KINDS, [("a", [("Bad", seven), ("Bad", ())])]), ("label", "Bad"))
        self.assertEqual(refused(KINDS, [("a", [("x", ()), ("x", seven)])]), ("again", "x"))
        self.assertEqual(refused(KINDS, [("a", [("x", seven), ("x", ())])]), ("long", "x"))
        self.assertEqual(refused(KINDS, [("a", [("x", seven)]), ("b", [])]), ("long", "x"))

    def test_symbols_go_behind_all_rules(self):
        rules = [("a", [("x", ("none",))]), ("b", [("x", ())])]
        self.assertEqual(refused(KINDS, rules), ("again", "x"))
        rules = [("a", [("x", ("none", "num"))]), ("b", [])]
        self.assertEqual(refused(KINDS, rules), ("bare", "b"))

    def test_symbols_go_one_by_one(self):
        rules = [("a", [("x", ("num",)), ("y", ("num", "blank", "none"))]), ("b", [("z", ("last",))])]
        self.assertEqual(refused(KINDS, rules), ("skipped", "blank"))
        rules = [("a", [("y", ("num", "none", "blank"))])]
        self.assertEqual(refused(KINDS, rules), ("symbol", "none"))

    def test_symbols_go_ahead_of_begin_and_begin_ahead_of_bars(self):
        rules = [("a", [("x", ("none",))])]
        self.assertEqual(refused(KINDS, rules, begin="b", bars=(("w", 1, "x"),)), ("symbol", "none"))
        rules = [("a", [("x", ("a",))])]
        self.assertEqual(refused(KINDS, rules, begin="b", bars=(("w", 1, "x"),)), ("begin", "b"))
        self.assertEqual(refused(KINDS, rules, bars=(("w", 1, "x"), ("v", 1, "x"))), ("bar", "w"))

    def test_it_is_a_yard_error(self):
        self.assertRaises(YardError, Grammar, [], [])


class Kept(unittest.TestCase):
    def make(self):
        kinds = list(KINDS)
        rules = [(name, list(alternatives)) for name, alternatives in RULES]
        return kinds, rules, Grammar(kinds, rules, bars=(("one", 1, "leaf"),))

    def told(self, grammar):
        return (grammar.kinds(), grammar.rules(), grammar.begin(), grammar.bars(), grammar.labels(),
                [grammar.labels_of(name) for name, _ in RULES], [grammar.row_of(label) for label in grammar.labels()],
                [grammar.rule_of(label) for label in grammar.labels()], len(grammar), repr(grammar),
                [grammar.is_kind(name) for name in ("num", "plus", "blank", "sum", "new")])

    def test_what_was_handed_in_is_changed_afterwards(self):
        kinds, rules, grammar = self.make()
        ahead = self.told(grammar)
        kinds.append(("new", signs("n"), False))
        kinds[0] = ("new", signs("n"), False)
        rules[0][1].append(("new", ("num",)))
        rules[1][1].clear()
        rules.append(("new", [("newer", ())]))
        rules.reverse()
        self.assertEqual(self.told(grammar), ahead)
        self.assertEqual(grammar, self.make()[2])

    def test_what_is_told_is_the_askers_own(self):
        grammar = self.make()[2]
        ahead = self.told(grammar)
        grammar.kinds().clear()
        grammar.rules().pop()
        for _, alternatives in grammar.rules():
            alternatives.clear()
        grammar.labels().append("new")
        grammar.labels_of("sum").clear()
        grammar.labels_of("term").append("new")
        self.assertEqual(self.told(grammar), ahead)
        self.assertEqual(grammar, self.make()[2])

    def test_what_was_handed_in_stays(self):
        kinds, rules, _ = self.make()
        self.assertEqual(kinds, KINDS)
        self.assertEqual(rules, RULES)

    def test_kinds_of_told_things(self):
        grammar = self.make()[2]
        for told in (grammar.kinds(), grammar.rules(), grammar.labels(), grammar.labels_of("sum"), grammar.rules()[0][1]):
            self.assertIs(type(told), list)
        for told in (grammar.bars(), grammar.row_of("both"), grammar.kinds()[0], grammar.rules()[0],
                     grammar.rules()[0][1][0]):
            self.assertIs(type(told), tuple)
        self.assertIsNot(grammar.kinds(), grammar.kinds())


class Equal(unittest.TestCase):
    def test_begin_told_or_left_out(self):
        self.assertTrue(Grammar(KINDS, RULES) == Grammar(KINDS, RULES, begin="sum"))
        self.assertFalse(Grammar(KINDS, RULES) != Grammar(KINDS, RULES, begin="sum", bars=()))

    def test_all_counts_in_its_order(self):
        grammar = Grammar(KINDS, RULES)
        turned = [(name, alternatives[::-1]) for name, alternatives in RULES]
        unlike = [
            Grammar(KINDS[::-1], RULES), Grammar(KINDS[:2], RULES),
            Grammar([(name, pattern, False) for name, pattern, _ in KINDS], RULES),
            Grammar([("num", signs("0"), False)] + KINDS[1:], RULES),
            Grammar([("nums", signs("0"), False)] + KINDS, RULES),
            Grammar(KINDS, RULES[::-1], begin="sum"), Grammar(KINDS, RULES, begin="term"), Grammar(KINDS, turned),
            Grammar(KINDS, RULES + [("new", [("newer", ())])]), Grammar(KINDS, RULES, bars=(("one", 1, "leaf"),)),
            Grammar(KINDS, [("sum", [("one", ("term",)), ("both", ("sum", "plus", "num"))]), RULES[1]]),
        ]
        for other in unlike:
            self.assertFalse(grammar == other)
            self.assertTrue(grammar != other)
        bars = (("one", 1, "leaf"), ("one", 1, "none"))
        self.assertNotEqual(Grammar(KINDS, RULES, bars=bars), Grammar(KINDS, RULES, bars=bars[::-1]))
        self.assertEqual(Grammar(KINDS, RULES, bars=bars), Grammar(KINDS, RULES, bars=bars))

    def test_nothing_else_is_equal(self):
        grammar = Grammar(KINDS, RULES)
        for other in (None, 4, True, "Grammar('sum', 4)", KINDS, (KINDS, RULES), object(), Grammar, [], {}):
            self.assertFalse(grammar == other)
            self.assertFalse(other == grammar)
            self.assertTrue(grammar != other)

    def test_the_largest_grammar(self):
        rules = [(name, [(label, ("aa", name, "aa", name, "aa", "aa")) for label, _ in alternatives])
                 for name, alternatives in rules_of(20, 5)]
        grammar = Grammar(kinds_of(14, 2) + [], rules, begin="rat")
        self.assertEqual(len(grammar), 100)
        self.assertEqual(repr(grammar), "Grammar('rat', 100)")
        self.assertEqual(grammar.rules(), rules)
        self.assertEqual(grammar.rule_of(grammar.labels()[99]), "rat")

    def test_a_small_language(self):
        grammar = Grammar(LANGUAGE, [("line", [("some", ("id", "arrow", "line")), ("end", ("loop",))])])
        self.assertEqual(grammar.kinds(), LANGUAGE)
        self.assertEqual(repr(grammar), "Grammar('line', 2)")
        self.assertEqual(word("->"), then(signs("-"), signs(">")))
