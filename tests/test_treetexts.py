"""Points 165, 166 and 169: trees written as texts and read again, and the grammar of such texts."""

import unittest
from random import Random

from tests.brute import more, signs, then
from tests.brute_bridges import some_words
from tests.brute_grammars import BARRED, NAMED, SUMS, grammar_of, nested, shapes_up_to
from tests.brute_texts import first_wrong, keep_beginnings
from tongueyard.cutting import pieces_of
from tongueyard.errors import NoText, NoTree, Stop
from tongueyard.gtexts import read_grammar, show_grammar
from tongueyard.machine import run_kinds
from tongueyard.patterns import SIGNS
from tongueyard.tables import table_of
from tongueyard.trees import parts_of, spelled_by
from tongueyard.treetexts import TREES, read_tree, show_tree
from tongueyard.wordtables import word_table

ANY = grammar_of("a: p b x a | q x | r\n b: s y a y", kinds=[("x", more(signs(SIGNS)), False),
    ("y", then(signs("\""), more(signs("\n\\a")), signs("\"")), False)])
TREE = (("p", "s", "q", "r"), (("y", "\"\n\""), ("x", "a b()\"\\n"), ("y", "\"\\a\""), ("x", "\n")))
TEXT = "p(s(y\"\\\"\\n\\\"\" q(x\"a b()\\\"\\\\n\") y\"\\\"\\\\a\\\"\") x\"\\n\" r())"


def plain_text(grammar, tree, name=None):
    words = [kind + "\"" + "".join({"\"": "\\\"", "\\": "\\\\", "\n": "\\n"}.get(sign,
        sign) for sign in text) + "\"" for kind, text in tree[1]]

    def show(node):
        label, parts = node
        return label + "(" + " ".join(words.pop(0) if isinstance(part, str) else show(part) for part in parts) + ")"
    return show(nested(grammar, tree[0], name)[0])


def refusal(call):
    try:
        return call()
    except NoText as found:
        return NoText, found.at
    except NoTree as found:
        return NoTree, found.node


def spread(text, chance):
    """The text with blanks and line feeds put in wherever they may stand."""
    told, is_quoted, is_escaped = "", False, False
    for at, sign in enumerate(text):
        if not is_quoted and not (at > 0 and sign.isalpha() and text[at - 1].isalpha()):
            told += chance.choice(["", "", " ", "\n", " \n  "])
        if not is_quoted and sign == " ":
            continue
        told += sign
        if is_escaped:
            is_escaped = False
        elif sign == "\"":
            is_quoted = not is_quoted
        elif sign == "\\" and is_quoted:
            is_escaped = True
    return told + chance.choice(["", "\n "])


class Shown(unittest.TestCase):
    def test_by_hand(self):
        self.assertEqual(show_tree(TREE, parts_of(ANY, TREE[0])), TEXT)
        self.assertEqual(show_tree((("r",), ()), parts_of(ANY, ("r",))), "r()")
        self.assertEqual(plain_text(ANY, TREE), TEXT)
        self.assertEqual(read_tree(ANY, TEXT), TREE)

    def test_there_and_back(self):
        chance = Random(1)
        for grammar in list(NAMED.values()) + list(BARRED.values()) + [ANY]:
            for name, _ in grammar.rules():
                for shape in sorted(shapes_up_to(grammar, 4, name))[:8]:
                    words = some_words(grammar, shape, chance, name) if grammar != ANY else tuple(
                        (kind,
                         chance.choice(["x", "a\\",
                                        "\"\""]) if kind == "x" else "\"\\\n\"") for kind in spelled_by(grammar, shape,
                                            name=name))
                    tree = (shape, words)
                    text = show_tree(tree, parts_of(grammar, shape, name=name))
                    self.assertEqual(text, plain_text(grammar, tree, name))
                    self.assertEqual(read_tree(grammar, text, name=name), tree)
                    for _ in range(3):
                        other = spread(text, chance)
                        self.assertEqual(read_tree(grammar, other, name=name), tree, other)
                    if name == grammar.begin():
                        self.assertEqual(read_tree(grammar, text), tree)

    def test_long_and_deep(self):
        grammar = grammar_of("a: p x a | q")
        tree = (("p",) * 900 + ("q",), (("x", "x"),) * 900)
        text = show_tree(tree, parts_of(grammar, tree[0]))
        self.assertEqual(text, "p(x\"x\" " * 900 + "q()" + ")" * 900)
        self.assertEqual(read_tree(grammar, text), tree)


class NoTexts(unittest.TestCase):
    def check(self, text):
        wrong = first_wrong("treetext", text)
        told = refusal(lambda: read_tree(ANY, text))
        if wrong is not None:
            self.assertEqual(told, (NoText, wrong), text)
        else:
            self.assertIsNot(told[0], NoText, text)
        return wrong

    def test_each_sign_otherwise_out_and_put_in(self):
        found = set()
        for text in (TEXT, " p ( x\n\"a\"r( ) )\n", "longname(longest\"\")", "r()", "p(s(y\"\" ) x\"\\\\\\\"\" )"):
            keep_beginnings("treetext", text)
            for at in range(len(text) + 1):
                found.add(self.check(text[:at]))
                self.check(text[:at] + text[at + 1:])
                for sign in "a()\"\\ \n#n.Z0~\t":
                    self.check(text[:at] + sign + text[at:])
                    self.check(text[:at] + sign + text[at + 1:])
        self.assertGreater(len(found), 50)

    def test_by_hand(self):
        for text, at in (("", 0), ("  ", 2), ("a", 1), ("a(", 2), ("a()b", 3), ("a() ", None), ("a()()", 3),
                         ("a(()", 2), ("A()", 0), ("a b()", 2), ("a(b)", 3),
                         ("a(\"x\")", 2), ("a\"x\"", 1), ("a(b\"x\n\")", 5), ("a(b\"x\\t\")", 6), ("a(b\"x", 5),
                         ("a(b\"x\\", 6), ("a(b\"x\"", 6), ("a(b\"\t\")", 4), ("word()", 4), ("rule ()", 4),
                         ("wor()", None),
                         ("abcdefghi()", 8), ("abcdefgh()", None), ("a(top\"x\")", 5), ("a(skipp\"x\")", None),
                         ("# a()", 0), ("a( #\n)", 3), ("a(b\"x\"c\"y\"d())", None), ("a,", 1),
                         ("a(b\"" + chr(37) + "\")", 4)):
            self.assertEqual(first_wrong("treetext", text), at, text)
            told = refusal(lambda: read_tree(ANY, text))
            self.assertEqual(told if told[0] is NoText else None, (NoText, at) if at is not None else None, text)


class NoTrees(unittest.TestCase):
    def test_each_reason_with_its_number(self):
        for text, node in (
                ("z()", 0), ("s()", 0), ("x()", 0), ("a()", 0), ("q()", 0), ("r(r())", 0), ("r(x\"x\")", 0),
                           ("p(s() x\"x\" r())", 1), ("q(x\"x\" x\"x\")", 0), ("q(r())", 1), ("q(z())", 1),
                ("q(y\"\\\"a\\\"\")", 0), ("q(b\"x\")", 0), ("q(x\"\")", 0), ("p(b\"x\" x\"x\" r())", 0),
                           ("p(q(x\"x\") x\"x\" r())", 1), ("p(x\"x\" s() r())", 0),
                           ("p(s(y\"a\" r() y\"a\") x\"x\" z())", 1),
                ("p(s(y\"\\\"a\\\"\" q(x\"x\") y\"\\\"a\\\"\") x\"x\" z())", 3),
                           ("p(s(y\"\\\"a\\\"\" q(x\"x\") y\"\\\"a\\\"\") s(z()) r(z()))", 3),
                           ("p(s(y\"\\\"a\\\"\" z() q() ) x\"\" r())", 0),
                ("p(s(y\"\\\"a\\\"\" z() q() ) x\"x\" r())", 2), ("p(s(y\"\\\"a\\\"\" r() q()) x\"x\" r())", 3),
                           ("p(s(y\"\\\"a\\\"\" r() ) x\"x\" z())", 1)):
            self.assertEqual(refusal(lambda: read_tree(ANY, text)), (NoTree, node), text)

    def test_of_other_rules(self):
        self.assertEqual(read_tree(ANY, "s(y\"\\\"a\\\"\" r() y\"\\\"a\\\"\")", name="b"),
                         (("s", "r"), (("y", "\"a\""), ("y", "\"a\""))))
        self.assertEqual(refusal(lambda: read_tree(ANY, "r()", name="b")), (NoTree, 0))
        self.assertEqual(refusal(lambda: read_tree(ANY, TEXT, name="b")), (NoTree, 0))
        self.assertEqual(refusal(lambda: read_tree(ANY, "r(", name="b")), (NoText, 2))
        begun = NAMED["begun"]
        self.assertEqual(refusal(lambda: read_tree(begun, "p(x\"x\")")), (NoTree, 0))
        self.assertEqual(read_tree(begun, "p(x\"x\")", name="a"), (("p",), (("x", "x"),)))

    def test_bars(self):
        grammar = BARRED["sums"]
        self.assertEqual(refusal(lambda: read_tree(grammar, "p(r(y\"y\") x\"x\" p(r(y\"y\") x\"x\" r(y\"y\")))")),
                         (NoTree, 2))
        self.assertEqual(read_tree(grammar, "p(p(r(y\"y\") x\"x\" r(y\"y\")) x\"x\" r(y\"y\"))")[0],
                         ("p", "p", "r", "r", "r"))
        # What is barred goes ahead of what is wrong further on.
        self.assertEqual(refusal(lambda: read_tree(grammar, "p(r(y\"y\") x\"x\" p(z()))")), (NoTree, 2))
        self.assertEqual(refusal(lambda: read_tree(grammar, "p(r(x\"y\") x\"x\" p(z()))")), (NoTree, 1))

    def test_a_word_of_a_rules_name(self):
        self.assertEqual(refusal(lambda: read_tree(SUMS, "one(term\"1\")")), (NoTree, 0))
        self.assertEqual(refusal(lambda: read_tree(SUMS, "one(leaf(sum\"1\"))")), (NoTree, 1))


class OwnGrammar(unittest.TestCase):
    GRAMMAR = read_grammar(TREES)[0]

    def run_text(self, text):
        """The shape to which a text reads, and its words; None where it does not read."""
        kinds = self.GRAMMAR.kinds()
        pieces = [(kind, told) for kind, told, _ in pieces_of(word_table(kinds), text) if kind != "gap"]
        try:
            return run_kinds(self.TABLE, [kind for kind, _ in pieces]), [told for _, told in pieces]
        except Stop:
            return None

    TABLE = table_of(GRAMMAR)

    def test_the_text(self):
        grammar, _ = read_grammar(TREES)
        self.assertEqual(grammar.bars(), ())
        self.assertEqual(read_grammar(show_grammar(grammar))[0], grammar)
        self.assertLess(len(self.TABLE[0]), 30)
        self.assertEqual([name for name, _, skip in grammar.kinds() if skip], ["gap"])

    def test_reads_what_is_of_the_form(self):
        chance = Random(2)
        texts = [TEXT, " p ( x\n\"a\"r( ) )\n", "r()", "longernamethaneight(\nword\"\")",
                 "word(skip(rule(top(bar\"x\"))))"]
        read = 0
        for text in texts:
            for at in range(len(text) + 1):
                for other in [text[:at],
                              text[:at] + text[at + 1:]] + [text[:at] + sign + text[at:] for sign in "a()\"\\ \n#nZ"]:
                    told = self.run_text(other)
                    if first_wrong("treetext", other) is None:
                        self.assertIsNotNone(told, other)
                    if told is None:
                        self.assertIsNotNone(first_wrong("treetext", other))
                    else:
                        read += 1
                        self.check_nodes(other, told)
        self.assertGreater(read, 300)
        for _ in range(200):
            text = "".join(chance.choice(["a", "b", "(", ")", "\"x\"", " ", "()",
                                          "a("]) for _ in range(chance.randint(1, 9)))
            self.assertEqual(self.run_text(text) is not None, first_wrong("treetext", text) is None, text)

    def check_nodes(self, text, told):
        """Nodes for trees and words in their order, each with the word that is its label or kind."""
        shape, words = told
        wanted = []
        is_quoted, name = False, ""
        at = 0
        while at < len(text):
            sign = text[at]
            if is_quoted:
                at += sign == "\\"
                is_quoted = sign != "\""
            elif sign.isalpha():
                name = name + sign if at and text[at - 1].isalpha() else sign
            elif sign == "(":
                wanted.append(("node", name))
            elif sign == "\"":
                is_quoted = True
                wanted.append(("leaf", name))
            at += 1
        parts = parts_of(self.GRAMMAR, shape)
        found = [(shape[node],
                  [words[number] for sort, number in parts[node] if sort == "word" and words[number].isalpha()])
                 for node in range(len(shape)) if shape[node] in ("node", "leaf")]
        self.assertEqual(found, [(label, [name]) for label, name in wanted])

    def test_long_texts(self):
        text = "a(" * 700 + "b\"x\"" * 80 + ")" * 700
        self.assertEqual(self.run_text(text[:1]), None)
        shape, _ = self.run_text(text)
        self.assertEqual((shape.count("node"), shape.count("leaf")), (700, 80))
