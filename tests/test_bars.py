"""Point 34: grammars with bars, parted into grammars without."""

import unittest
from itertools import product

from tests.brute import signs
from tests.brute_grammars import (BARRED, KINDS, NAMED, grammar_of, is_plain_shape, labels_by_rule, numbers_of_shape,
                                  rows_of, shapes_up_to, some_grammars, spelled_plainly)
from tongueyard.bars import parted
from tongueyard.errors import AllBarred, NoLabel, NoTree, TooMany
from tongueyard.grammars import Grammar
from tongueyard.names import fresh, is_name
from tongueyard.trees import is_shape, spelled_by

LETTERS = "abcdefghijklmnopqrstuvwxyz"


def is_all_barred(grammar):
    try:
        parted(grammar)
    except AllBarred:
        return True
    return False


SAMPLES = list(BARRED.values()) + some_grammars(4, 60, True)
PARTED = [grammar for grammar in SAMPLES if grammar.bars() and not is_all_barred(grammar)]


def refused(call, *arguments):
    try:
        call(*arguments)
    except NoTree as refusal:
        return refusal.node
    return "no"


def pairs_by_the_words(grammar):
    """The pairs with their labels that are left, by going over the point word by word."""
    rows, labels = rows_of(grammar), labels_by_rule(grammar)

    def barred_at(label, place):
        return tuple(other for other in labels[rows[label][place - 1]] if (label, place, other) in grammar.bars())

    def pairs_in(label):
        return [(part, barred_at(label, place)) for place, part in enumerate(rows[label], 1) if part in labels]

    met = [(grammar.begin(), ())]
    for pair in met:
        for label in labels[pair[0]]:
            if label not in pair[1]:
                for other in pairs_in(label):
                    if other not in met:
                        met.append(other)
    left = {pair: [label for label in labels[pair[0]] if label not in pair[1]] for pair in met}
    gone = True
    while gone:
        gone = False
        for pair in met:
            for label in list(left[pair]):
                if any(not left[other] for other in pairs_in(label)):
                    left[pair].remove(label)
                    gone = True
    reached = [met[0]]
    for pair in reached:
        for label in left[pair]:
            for other in pairs_in(label):
                if other not in reached:
                    reached.append(other)
    return [(pair, left[pair]) for pair in met if left[pair] and pair in reached], pairs_in


class Plain(unittest.TestCase):
    def test_without_bars_it_is_that_grammar(self):
        for grammar in NAMED.values():
            parts = parted(grammar)
            self.assertEqual(parts.plain(), grammar)
            for label in grammar.labels():
                self.assertEqual(parts.old_label(label), label)
            self.assertRaises(NoLabel, parts.old_label, "nil")
            for shape in shapes_up_to(grammar, 5)[:30]:
                self.assertEqual((parts.led_in(shape), parts.led_out(shape)), (shape, shape))

    def test_rules_and_names(self):
        self.assertGreater(len(PARTED), 30)
        for grammar in PARTED:
            pairs, pairs_in = pairs_by_the_words(grammar)
            taken = [name for name, _, _ in grammar.kinds()] + list(labels_by_rule(grammar))
            labels = grammar.labels()
            names, called = {}, {}
            for pair, left in pairs:
                names[pair] = fresh(pair[0], taken) if pair[1] else pair[0]
                taken.append(names[pair])
                for label in left:
                    called[(pair, label)] = fresh(label, labels) if pair[1] else label
                    labels.append(called[(pair, label)])
            rules = []
            for pair, left in pairs:
                alternatives = []
                for label in left:
                    inner = iter(pairs_in(label))
                    row = [names[next(inner)] if part in labels_by_rule(grammar) else part
                           for part in rows_of(grammar)[label]]
                    alternatives.append((called[(pair, label)], tuple(row)))
                rules.append((names[pair], alternatives))
            plain = parted(grammar).plain()
            self.assertEqual(plain.rules(), rules)
            self.assertEqual((plain.kinds(), plain.begin(), plain.bars()), (grammar.kinds(), grammar.begin(), ()))
            for (_, label), name in called.items():
                self.assertEqual(parted(grammar).old_label(name), label)
            self.assertEqual(sorted(plain.labels()), sorted(called.values()))

    def test_by_hand(self):
        grammar = grammar_of("a: p a x a | q b a | r y\n b: s x | t a",
                             bars=(("p", 3, "p"), ("q", 2, "p"), ("q", 2, "q"), ("q", 1, "t")))
        wanted = grammar_of("""
            a: p a x aaa | q baa aab | r y
            aaa: qaa baa aab | raa y
            baa: saa x
            aab: rab y""")
        self.assertEqual(parted(grammar).plain(), wanted)
        parts = parted(grammar)
        self.assertEqual(parts.led_in(("p", "p", "r", "q", "s", "r", "r")), ("p", "p", "r", "qaa", "saa", "rab", "raa"))
        self.assertEqual(parts.led_out(("p", "p", "r", "qaa", "saa", "rab", "raa")), ("p", "p", "r", "q", "s", "r", "r"))
        self.assertEqual([parts.old_label(label) for label in ("p", "raa", "rab", "saa")], ["p", "r", "r", "s"])
        for label in ("s", "t", "paa", "", "nil"):
            with self.assertRaises(NoLabel) as caught:
                parts.old_label(label)
            self.assertEqual(caught.exception.label, label)

    def test_what_falls_out(self):
        # b has no alternative at p's place, so p falls out; what only p came to is no more come to.
        grammar = grammar_of("a: p b c | q x\n b: r x | s y\n c: t x", bars=(("p", 1, "r"), ("p", 1, "s")))
        self.assertEqual(parted(grammar).plain(), grammar_of("a: q x"))
        # And so on: with u all of d goes, and with it v.
        grammar = grammar_of("a: v d | w x\n d: u b\n b: r x", bars=(("u", 1, "r"),))
        self.assertEqual(parted(grammar).plain(), grammar_of("a: w x"))
        # A rule that is just barren has alternatives, it stays.
        grammar = grammar_of("a: p b | q x a\n b: r b", bars=(("q", 2, "q"),))
        self.assertEqual(parted(grammar).plain(), grammar_of("a: p b | q x aaa\n b: r b\n aaa: paa b"))

    def test_taken_names(self):
        kinds = [("x", signs("x"), False), ("baa", signs("y"), True)]
        grammar = grammar_of("a: p b | saa bab\n b: r x | s a\n bab: taa", bars=(("p", 1, "r"),), kinds=kinds)
        self.assertEqual(parted(grammar).plain().rules(),
                         [("a", [("p", ("bac",)), ("saa", ("bab",))]), ("bac", [("sab", ("a",))]), ("bab", [("taa", ())])])

    def test_long_names_keep_six_letters(self):
        grammar = Grammar(KINDS, [("abcdefgh", [("ijklmnop", ("abcdefgh",)), ("qrstuv", ("abcdefgh",)), ("end", ())])],
                          bars=(("ijklmnop", 1, "ijklmnop"), ("qrstuv", 1, "qrstuv")))
        plain = parted(grammar).plain()
        self.assertEqual([name for name, _ in plain.rules()], ["abcdefgh", "abcdefaa", "abcdefab"])
        self.assertEqual(plain.labels_of("abcdefab"), ["ijklmnaa", "endab"])
        self.assertTrue(all(is_name(label) for label in plain.labels()))


class Led(unittest.TestCase):
    def test_there_and_back_one_by_one_in_the_same_order(self):
        for grammar in PARTED:
            parts = parted(grammar)
            plain = parts.plain()
            shapes = sorted(shapes_up_to(grammar, 6), key=lambda shape: numbers_of_shape(grammar, shape))
            led = [parts.led_in(shape) for shape in shapes]
            self.assertEqual(led, sorted(shapes_up_to(plain, 6), key=lambda shape: numbers_of_shape(plain, shape)))
            for shape, other in zip(shapes, led):
                row = spelled_plainly(grammar, shape)
                self.assertTrue(is_plain_shape(plain, other, row) and is_shape(plain, other, row))
                self.assertEqual(parts.led_out(other), shape)

    def test_refused_as_spelled_by(self):
        for grammar in PARTED:
            parts = parted(grammar)
            for call, owner in ((parts.led_in, grammar), (parts.led_out, parts.plain())):
                labels = owner.labels()[:5] + ["nil"]
                for many in range(4):
                    for shape in product(labels, repeat=many):
                        self.assertEqual(refused(call, shape), refused(spelled_by, owner, shape))

    def test_a_broken_bar(self):
        grammar = BARRED["sums"]
        self.assertEqual(refused(parted(grammar).led_in, ("p", "r", "p", "r", "r")), 2)
        self.assertEqual(refused(parted(grammar).led_out, ("p", "r", "p", "r", "r")), 2)


class Refused(unittest.TestCase):
    def limit(self, grammar):
        try:
            parted(grammar)
        except TooMany as refusal:
            return refusal.limit
        return None

    def many_rules(self, rules, barred, labels=1):
        """A grammar whose beginning comes to so many rules, and to some of them with their first label barred."""
        names = ["b" + letter for letter in LETTERS[:rules]]
        alternatives = [("p" + name, (name,)) for name in names]
        alternatives += [("q" + name, (name,)) for name in names[:barred]]
        others = [(name, [(name + letter, ()) for letter in LETTERS[:labels]]) for name in names]
        return Grammar(KINDS, [("a", alternatives)] + others, bars=tuple(("q" + name, 1, name + "a") for name in names[:barred]))

    def test_pairs(self):
        # With one label each the barred pairs have no alternatives; they are met all the same.
        self.assertIsNone(self.limit(self.many_rules(20, 19)))
        self.assertEqual(len(parted(self.many_rules(20, 19)).plain()), 40)
        self.assertEqual(self.limit(self.many_rules(20, 20)), 40)

    def many_labels(self, extra):
        """A grammar with pairs of 98 alternatives and some more."""
        rows = [("p", ("b",) * 4)] + [("q" + LETTERS[at], ()) for at in range(extra)]
        labels = [("r" + letter, ()) for letter in LETTERS[:25]]
        return Grammar(KINDS, [("a", rows), ("b", labels)], bars=tuple(("p", at + 1, labels[at][0]) for at in range(3)))

    def test_alternatives(self):
        self.assertIsNone(self.limit(self.many_labels(2)))
        self.assertEqual(len(parted(self.many_labels(2)).plain()), 100)
        self.assertEqual(self.limit(self.many_labels(3)), 100)

    def test_pairs_go_ahead_of_alternatives(self):
        self.assertEqual(self.limit(self.many_rules(20, 19, 3)), 100)
        self.assertEqual(self.limit(self.many_rules(20, 20, 3)), 40)

    def test_all_barred(self):
        for rows, bars in (("a: p b x\n b: r x", [("p", 1, "r")]), ("a: p a", [("p", 1, "p")]),
                           ("a: p a | q a", [(one, 1, other) for one in "pq" for other in "pq"]),
                           ("a: p b\n b: q c\n c: r d | s d x\n d: t", [("r", 1, "t"), ("s", 1, "t")])):
            self.assertTrue(is_all_barred(grammar_of(rows, bars=tuple(bars))), rows)
            self.assertFalse(is_all_barred(grammar_of(rows, bars=tuple(bars[1:]))), rows)

    def all_barred(self, rules):
        names = ["b" + letter for letter in LETTERS[:rules]]
        alternatives = [("p" + name, (name, name)) for name in names]
        return Grammar(KINDS, [("a", alternatives)] + [(name, [(name, ())]) for name in names],
                       bars=tuple(("p" + name, 2, name) for name in names))

    def test_too_many_goes_ahead_of_all_barred(self):
        self.assertTrue(is_all_barred(self.all_barred(19)))
        self.assertEqual(self.limit(self.all_barred(20)), 40)

    def test_grammars_without_bars_may_be_of_any_size(self):
        names = ["b" + letter for letter in LETTERS] + ["c" + letter for letter in LETTERS[:14]]
        grammar = Grammar(KINDS, [(name, [(name + "p", tuple(names[:6])), (name + "q", ())]) for name in names])
        self.assertEqual(parted(grammar).plain(), grammar)


class Kept(unittest.TestCase):
    def test_told_alike(self):
        for grammar in PARTED:
            self.assertEqual(parted(grammar).plain(), parted(grammar).plain())
            rules = grammar.rules()
            parted(grammar).plain().rules().clear()
            parted(grammar).plain().labels().clear()
            self.assertEqual((grammar.rules(), parted(grammar).plain()), (rules, parted(grammar).plain()))
