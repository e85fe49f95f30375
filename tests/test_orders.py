"""Points 170 and 171: deeds on grammars written as rows, and read again."""

import unittest
from random import Random

from tests.bent import ANYTHING
from tests.brute import again, more, signs, then, word
from tests.brute_grammars import BARRED, NAMED, PATTERNS, SUMS
from tests.test_deeds import BASE, some_deed
from tongueyard.errors import NoRow
from tongueyard.gtexts import show_pattern
from tongueyard.orders import read_deed, show_deed
from tongueyard.trees import parts_of

TREE = (("p", "s", "r", "q"), (("y", "x y\""), ("x", "x"), ("x", "x")))
PARTS = [[("node", 1), ("word", 1), ("node", 3)], [("word", 0), ("node", 2)], [], [("word", 2)]]
TOLD = [
    (("call", "a", "b"), "call a b"), (("label", "one", "two"), "label one two"),
        (("add", "sum", 1, "minus", ("sum", "dash", "item")), "add sum 1 minus sum dash item"),
    (("add", "sum", 0, "minus", ()), "add sum 0 minus"), (("drop", "p"), "drop p"),
        (("rule", 2, "new", [("a", ("x", "y")), ("b", ())]), "rule 2 new a: x y | b:"),
    (("rule", 0, "new", [("a", ())]), "rule 0 new a:"), (("norule", "a"), "norule a"),
        (("word", 3, "num", more(signs("01")), False), "word 3 num [01]+"),
    (("word", 3, "num", more(signs("01")), True), "skip 3 num [01]+"), (("noword", "num"), "noword num"),
        (("kind", "num", then(signs("a"), again(signs(" bc"))), False), "kind num [a] [ bc]*"),
    (("kind", "num", word("a b\n\""), True), "skipkind num \"a b\\n\\\"\""), (("begin", "a"), "begin a"),
        (("turn", "p", (3, 1, 2)), "turn p 3 1 2"), (("turn", "p", ()), "turn p"),
    (("turn", "p", (10, 9999, 0)), "turn p 10 9999 0"), (("put", "add", 2, "dash", "-"), "put add 2 dash \"-\""),
        (("put", "add", 2, "dash", " a\\\n\""), "put add 2 dash \" a\\\\\\n\\\"\""),
    (("put", "add", 2, "dash", ""), "put add 2 dash \"\""), (("put", "p", 1, "a", TREE),
        "put p 1 a p(s(y\"x y\\\"\" r()) x\"x\" q(x\"x\"))"), (("take", "p", 4), "take p 4"),
    (("fold", "p", 1, 3, "new", "in"), "fold p 1 3 new in"), (("unfold", "p", 0), "unfold p 0"),
        (("bar", "p", 1, "q"), "bar p 1 q"), (("nobar", "p", 9999, "q"), "nobar p 9999 q"),
]


def is_row(text):
    try:
        read_deed(text)
    except NoRow as found:
        assert found.row is text or found.row == text
        return False
    return True


class There(unittest.TestCase):
    def test_each_deed(self):
        for deed, text in TOLD:
            told = show_deed(deed, parts=PARTS if isinstance(deed[-1], tuple) and deed[0] == "put" else None)
            self.assertEqual(told, text)
            self.assertEqual(read_deed(text), deed)
            if "parts" not in text and deed[0] != "put":
                self.assertEqual(show_deed(deed), text)
        self.assertEqual({deed[0] for deed, _ in TOLD}, {
            "call", "label", "add", "drop", "rule", "norule", "word", "noword", "kind", "begin", "turn", "put", "take",
                                                         "fold", "unfold", "bar", "nobar"})
        told = read_deed("rule 2 new a: x y | b:")
        self.assertEqual((type(told[3]), type(told[3][0]), type(told[3][0][1])), (list, tuple, tuple))

    def test_patterns(self):
        for pattern in PATTERNS:
            for deed in (("kind", "k", pattern, False), ("word", 0, "k", pattern, True)):
                self.assertEqual(read_deed(show_deed(deed)), deed)
        # Patterns and trees may be written as they are read.
        self.assertEqual(read_deed("kind num  ( [ba] )* # so"), ("kind", "num", again(signs("ab")), False))
        self.assertEqual(read_deed("skip 0 num \n[a]\n"), ("word", 0, "num", signs("a"), True))
        self.assertEqual(read_deed("put p 1 a  q ( x \"x\"r( )\n) "), ("put", "p", 1, "a", (("q", "r"), (("x", "x"),))))
        self.assertEqual(read_deed("kind num " + show_pattern(PATTERNS[8])), ("kind", "num", PATTERNS[8], False))

    def test_by_form_alone(self):
        for deed in (("drop", "nowhere"), ("put", "z", 0, "z", (("z", "y"), (("k", ""),))), ("turn", "p", (7, 7)),
                     ("add", "a", 99, "p", ("p",) * 9), ("rule", 9, "a", [("a", ()), ("a", ())]),
                     ("word", 0, "k", ("empty",), False)):
            parts = [[("word", 0), ("node", 1)], []] if deed[0] == "put" else None
            self.assertEqual(read_deed(show_deed(deed, parts=parts)), deed)

    def test_some_by_chance(self):
        chance = Random(3)
        words = set()
        for grammar in [BASE, SUMS, NAMED["half"], NAMED["nullable"], BARRED["sums"]] * 60:
            deed = some_deed(grammar, chance)
            is_tree = deed[0] == "put" and isinstance(deed[4], tuple)
            if is_tree and not deed[4][0]:
                continue
            parts = parts_of(grammar, deed[4][0], name=deed[3]) if is_tree else None
            self.assertEqual(read_deed(show_deed(deed, parts=parts)), deed)
            words.add(deed[0])
        self.assertEqual(len(words), 17)


class NoRows(unittest.TestCase):
    def test_anything(self):
        for thing in ANYTHING + ["", " ", "call", "call a", "call a b c", "other a", "Call a b", " call a b",
                                 "call  a b", "call a  b", "call a b ", "call a b\n", "call a word", "call A b",
                                 "call abcdefghi b",
                                 "call a ", "drop", "drop ", "drop a b", "drop a\n", "call a b\n#"]:
            with self.assertRaises(NoRow) as caught:
                read_deed(thing)
            self.assertIs(caught.exception.row, thing)

    def test_numbers(self):
        for number, holds in (("0", True), ("7", True), ("10", True), ("9999", True), ("10000", False), ("00", False),
                              ("01", False), ("-1", False), ("+1", False), ("", False), ("a", False), ("1.0", False),
                              ("1a", False), ("one", False), (" 1", False)):
            for text in ("take p N", "bar p N q", "nobar p N q", "add a N p x", "add a N p", "rule N a p:",
                         "word N k [a]", "skip N k [a]", "put p N k \"a\"", "put p N k q()", "fold p N 1 a q",
                         "fold p 1 N a q", "unfold p N", "turn p N", "turn p 1 N", "turn p N 1"):
                self.assertIs(is_row(text.replace("N", number)), holds, (text, number))

    def test_an_empty_word_at_any_place(self):
        # How many words stand ahead of a pattern, a text or a tree, in which blanks are signs like others.
        heads = {"word": 3, "skip": 3, "kind": 2, "skipkind": 2, "put": 4}
        for _, text in TOLD:
            words = text.split(" ")
            many = heads.get(words[0], len(words))
            for at in range(many):
                self.assertIs(is_row(" ".join(words[:at] + [""] + words[at:])), False, (text, at))
            # Ahead of and behind a pattern or a tree a blank more may stand, but not beside a quoted text.
            is_free = words[0] in heads and (words[0] != "put" or "(" in text)
            self.assertIs(is_row(" ".join(words[:many] + [""] + words[many:])), is_free, text)
            self.assertIs(is_row(text + " "), is_free, text)

    def test_a_sign_otherwise(self):
        for _, text in TOLD:
            for at in range(len(text)):
                for sign in "A.;\t":
                    other = text[:at] + sign + text[at + 1:]
                    is_within = "\"" in text and text.index("\"") < at < text.rindex("\"") or "[" in text and text.index("[") < at < text.rindex("]")
                    if not is_within:
                        self.assertIs(is_row(other), False, other)

    def test_rows_orders_and_alternatives(self):
        for text in ("add a 0 p x  y", "add a 0 p x ", "add a 0 p ", "add a 0 p x Y", "add a 0 p x.y", "add a 0",
                     "turn p 1  2", "turn p 1 ", "turn p ", "turn", "turn p a", "turn p 1 a", "rule 0 a", "rule 0 a ",
                     "rule 0 a p", "rule 0 a p x",
                     "rule 0 a p : x", "rule 0 a p:x", "rule 0 a p:  x", "rule 0 a p: x ", "rule 0 a p: x |",
                     "rule 0 a p: x | ", "rule 0 a p: x| q:", "rule 0 a p: x |q:", "rule 0 a | q:",
                     "rule 0 a p: x |  q:", "rule 0 a p: x  | q:", "rule 0 a p: x || q:", "rule 0 a : x",
                     "rule 0 a p:;",
                     "rule 0 a word:", "rule 0 a p: bar", "rule 0 a p: x | | q:", "add a 0 rule", "fold p 1 2 a",
                     "fold p 1 2 a q r", "begin", "begin a b", "kind k", "kind k ", "kind k a", "kind k [",
                     "kind k [a] ;", "kind 0 k [a]", "word k [a]", "skip 0 k", "kind k [aa]", "kind k \"\"",
                     "put p 1 k", "put p 1 k ", "put p 1 k a", "put p 1 k \"a", "put p 1 k \"a\" ", "put p 1 k  \"a\"",
                     "put p 1 k \"a\"\"b\"", "put p 1 k \"\\t\"", "put p 1 k q", "put p 1 k q(", "put p 1 k q()r()",
                     "put p 1 k 'a'", "put p 1 k \"a\\\"", "put p 1 k \"\n\"", "put p 1 k q(x)", "put p 1 k word()",
                     "put p 1 k \"a\"#"):
            self.assertIs(is_row(text), False, text)
