"""Point 42: META, by which all texts of grammars are read to trees of the grammars that they write."""

import unittest

from tests.brute_grammars import NAMED, SUMS, grammar_of
from tests.brute_tables import Clash, Table
from tests.brute_texts import first_wrong, keep_beginnings
from tests.test_gtexts import SAMPLES, TEXTS, TRIED
from tongueyard.cutting import cut_words, pieces_of
from tongueyard.errors import NoGrammar, NoText
from tongueyard.grammars import Grammar
from tongueyard.gtexts import META, read_grammar, read_pattern, show_grammar
from tongueyard.places import how_many_signs
from tongueyard.trees import is_tree
from tongueyard.wordtables import word_paper, word_table

GRAMMAR = read_grammar(META)[0]
WORDS = word_table(GRAMMAR.kinds())
TABLE = Table(GRAMMAR)
MARKS = {"*": "again", "+": "more", "?": "maybe"}


def read_by_meta(text):
    """The tree of a text by META, or None."""
    return TABLE.tree([(kind, piece) for kind, piece, _ in pieces_of(WORDS, text) if kind != "gap"])


def texts_of(parts):
    return [part[1] for part in parts]


class Written:
    """The grammar that a tree of META writes."""

    def __init__(self, tree):
        self.kinds, self.rules, self.bars, self.top = [], [], [], None
        self.text(tree)

    def text(self, tree):
        label, parts = tree
        if label == "rows":
            self.text(parts[0])
            getattr(self, parts[1][0])(parts[1][1])

    def kind(self, parts):
        self.kinds.append((parts[1][1], self.pattern(parts[2]), parts[0][1] == "skip"))

    def ruled(self, parts):
        self.rules.append((parts[1][1], self.options(parts[3])))

    def begun(self, parts):
        self.top = parts[1][1]

    def barred(self, parts):
        self.bars.append((parts[1][1], int(parts[2][1]), parts[3][1]))

    def options(self, tree):
        label, parts = tree
        ahead = self.options(parts[0]) if label == "options" else []
        name, _, symbols = parts[-1][1]
        return ahead + [(name[1], tuple(self.symbols(symbols)))]

    def symbols(self, tree):
        return [] if tree[0] == "nosymbol" else self.symbols(tree[1][0]) + [tree[1][1][1]]

    def pattern(self, tree):
        label, parts = tree
        if label in ("series", "item"):
            return self.pattern(parts[0])
        if label == "either":
            return ("or", self.pattern(parts[0]), self.pattern(parts[2]))
        if label == "then":
            return ("then", self.pattern(parts[0]), self.pattern(parts[1]))
        if label == "marked":
            return (MARKS[parts[1][1]], self.pattern(parts[0]))
        if label == "nothing":
            return ("empty",)
        return self.pattern(parts[1]) if label == "within" else read_pattern(parts[0][1])

    def grammar(self):
        return Grammar(self.kinds, self.rules, begin=self.top, bars=tuple(self.bars))


def flattened(tree):
    """A tree of the table as (shape, words)."""
    shape, words = [tree[0]], []
    for part in tree[1]:
        if isinstance(part[1], str):
            words.append(part)
        else:
            inner = flattened(part)
            shape += inner[0]
            words += inner[1]
    return shape, words


class Meta(unittest.TestCase):
    def test_it_is_a_text_of_the_form_and_as_it_is_written(self):
        self.assertIsNone(first_wrong("grammar", META))
        self.assertEqual(show_grammar(GRAMMAR), META)

    def test_it_is_within_what_may_be_handed_in(self):
        self.assertLessEqual(len(GRAMMAR.rules()), 12)
        self.assertLessEqual(len(GRAMMAR), 30)
        self.assertLessEqual(len(GRAMMAR.kinds()), 14)
        self.assertLessEqual(sum(how_many_signs(pattern) for _, pattern, _ in GRAMMAR.kinds()), 40)
        self.assertLessEqual(len(word_paper(GRAMMAR.kinds())), 500)
        self.assertEqual(GRAMMAR.bars(), ())

    def test_it_has_a_table(self):
        self.assertLessEqual(len(TABLE.states), 120)
        self.assertRaises(Clash, Table, grammar_of("a: p a a | q x"))

    def test_texts_are_read_to_trees_of_the_grammars_that_they_write(self):
        for grammar in SAMPLES:
            tree = read_by_meta(show_grammar(grammar))
            self.assertEqual(Written(tree).grammar(), grammar)
            shape, words = flattened(tree)
            self.assertTrue(is_tree(GRAMMAR, (tuple(shape), tuple(words))))
        self.assertEqual(Written(read_by_meta(META)).grammar(), GRAMMAR)

    def test_all_texts_of_the_form_and_hardly_any_other_ones(self):
        for text in TEXTS:
            keep_beginnings("loose grammar", text)
            for at in range(len(text) + 1):
                self.check(text[:at])
                self.check(text[:at] + text[at + 1:])
                for sign in TRIED.strip("\t"):
                    self.check(text[:at] + sign + text[at + 1:])

    def check(self, text):
        tree = read_by_meta(text)
        self.assertEqual(tree is not None, first_wrong("loose grammar", text) is None, repr(text))
        if first_wrong("grammar", text) is not None:
            self.assertRaises(NoText, read_grammar, text)
            return
        try:
            self.assertEqual(Written(tree).grammar(), read_grammar(text)[0])
        except NoGrammar:
            self.assertRaises(NoGrammar, read_grammar, text)

    def test_what_it_takes_besides(self):
        for text in ("word abcdefghi [a];", "word a [aa\\\\\\\\];", "top a; top b;", "rule abcdefghijk: abcdefghijk: abcdefghijk;"):
            self.assertIsNotNone(read_by_meta(text), text)
            self.assertRaises(NoText, read_grammar, text)
        for text in ("word word [a];", "word a [];", "wordnum [a];", "rule a: word:;", "bar a 0 b;", "x", "word a \"%\";",
                     "word a [a] | ;", "rule a:;", "word a [\\x];", "word a [\n];"):
            self.assertIsNone(read_by_meta(text), text)
            self.assertRaises(NoText, read_grammar, text)

    def test_its_kinds_cut_such_texts_into_words(self):
        self.assertEqual(texts_of(cut_words(GRAMMAR.kinds(), "word words[\\]a]\"x y\"*#[\n;top\nskips;bar a1b;")),
                         ["word", "words", "[\\]a]", "\"x y\"", "*", ";", "top", "skips", ";", "bar", "a", "1", "b", ";"])
        table = word_table(GRAMMAR.kinds())
        self.assertEqual(len({kind for kind, _ in table if kind is not None}), 14)

    def test_the_table_reads_as_shapes_do(self):
        table = Table(SUMS)
        self.assertEqual(table.tree([("num", "1"), ("plus", "+"), ("num", "2")]),
                         ("both", [("one", [("leaf", [("num", "1")])]), ("plus", "+"), ("leaf", [("num", "2")])]))
        self.assertIsNone(table.tree([("num", "1"), ("num", "2")]))
        self.assertRaises(Clash, Table, NAMED["ring"])
