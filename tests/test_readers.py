"""Point 120: readers."""

import unittest

from tests.brute import signs
from tests.brute_documents import READ
from tests.brute_grammars import BARRED, NAMED, grammar_of, is_barred, nested, shapes_up_to, some_grammars, words_of
from tests.brute_reading import READ as ROWS_READ
from tongueyard.bars import parted
from tongueyard.errors import AllBarred, Clash, Ringed, TooMany
from tongueyard.grammars import Grammar
from tongueyard.known import ring
from tongueyard.readers import Reader
from tongueyard.tables import table_of


def nests(grammar, name, most):
    """Whether in some tree of few labels the rule stands at two nodes, one beneath the other, over the same words."""
    homes = {label: rule for rule, alternatives in grammar.rules() for label, _ in alternatives}

    def found(tree, above):
        many = len(words_of(tree))
        here = [rule for rule, words in above if words == many]
        if homes[tree[0]] == name and name in here:
            return True
        return any(found(part, above + [(homes[tree[0]], many)]) for part in tree[1] if isinstance(part, tuple))

    return any(found(nested(grammar, shape)[0], []) for shape in shapes_up_to(grammar, most)
               if not is_barred(grammar, nested(grammar, shape)[0]))


class Readers(unittest.TestCase):
    def test_tables(self):
        wanted = {"sums": True, "lists": True, "two": False, "even": False, "skip": True, "barren": True}
        for name, told in wanted.items():
            reader = Reader(READ[name])
            self.assertIs(reader.has_table(), told, name)
            self.assertEqual(reader.grammar_read(), READ[name])
        self.assertIs(Reader(READ["bars"]).has_table(), True)
        many = 0
        for grammar in list(NAMED.values()) + list(ROWS_READ.values()) + some_grammars(9, 40):
            if ring(grammar) is not None:
                continue
            try:
                table_of(grammar)
                told = True
            except Clash:
                told = False
            self.assertIs(Reader(grammar).has_table(), told)
            many += 1
        self.assertGreater(many, 20)

    def test_too_many_states(self):
        # More than 120 merged states, but no clash.
        kinds = [(letter, signs(letter), False) for letter in "abcdefghijklmn"]
        rules = [("s", [("l" + name, (name,)) for name in ("ra", "rb", "rc", "rd")])]
        for at, name in enumerate(("ra", "rb", "rc", "rd")):
            letters = "abcdefghijklmn"
            rules.append((name, [(f"{name}{chr(97 + k)}", (letters[at], letters[k], letters[k], letters[k - 1],
                                                           letters[k - 2], letters[k - 3]))
                                 for k in range(4, 13)]))
        grammar = Grammar(kinds, rules)
        self.assertIs(Reader(grammar).has_table(), False)
        self.assertGreater(len(table_of(grammar, limit=1000)[0]), 120)

    def test_ringed(self):
        rings = 0
        for grammar in list(NAMED.values()) + list(ROWS_READ.values()) + some_grammars(3,
            60) + list(BARRED.values()) + some_grammars(4, 60, True):
            try:
                plain = parted(grammar).plain()
            except AllBarred:
                with self.assertRaises(AllBarred):
                    Reader(grammar)
                continue
            if ring(plain) is None:
                Reader(grammar)
                continue
            with self.assertRaises(Ringed) as caught:
                Reader(grammar)
            name = caught.exception.name
            self.assertIn(name, [rule for rule, _ in grammar.rules()])
            if len(grammar.rules()) < 4:
                self.assertTrue(nests(grammar, name, 8) or nests(grammar, name, 10),
                                (grammar.rules(), grammar.bars(), name))
                rings += 1
        self.assertGreater(rings, 15)

    def test_bars_end_rings_and_make_none(self):
        ringed = grammar_of("a: p a | q x")
        with self.assertRaises(Ringed) as caught:
            Reader(ringed)
        self.assertEqual(caught.exception.name, "a")
        barred = Grammar(ringed.kinds(), ringed.rules(), bars=(("p", 1, "p"),))
        # Each text has two trees then, but no more.
        self.assertIs(Reader(barred).has_table(), False)
        # A ring where the rule is come to with something barred.
        inner = grammar_of("s: t a\n a: p a | q x | r y", bars=(("t", 1, "r"), ("p", 1, "r")))
        with self.assertRaises(Ringed) as caught:
            Reader(inner)
        self.assertEqual(caught.exception.name, "a")

    def test_all_barred_and_too_many(self):
        out = grammar_of("a: p b\n b: q x", bars=(("p", 1, "q"),))
        with self.assertRaises(AllBarred):
            Reader(out)
        # All barred goes ahead of a ring that there would be.
        both = grammar_of("a: p b\n b: q x | r b", bars=(("p", 1, "q"), ("p", 1, "r")))
        with self.assertRaises(AllBarred):
            Reader(both)
        labels = ["b" + letter for letter in "abcdefghijklmnop"]
        rules = [("a", [("l" + label, ("b",) * 6) for label in labels[:7]]),
                 ("b", [(label, ("x",)) for label in labels])]
        bars = tuple((f"l{labels[at // 6]}", at % 6 + 1, labels[at % 15]) for at in range(28))
        wide = Grammar([("x", signs("x"), False)], rules, bars=bars)
        with self.assertRaises(TooMany) as caught:
            Reader(wide)
        self.assertEqual(caught.exception.limit, 100)
