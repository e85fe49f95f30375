"""Points 96 to 101: trees printed, and cut to their words again."""

import unittest
from random import Random

from tests.brute import DIGITS, either, maybe, more, signs, then, word
from tests.brute_grammars import BARRED, SUMS, grammar_of, shapes_up_to, spelled_plainly
from tests.brute_printing import PlainPrint, some_marks
from tongueyard.cutting import cut_words
from tongueyard.errors import NoPrint, NotGood, NoTree
from tongueyard.gaps import gap_holds
from tongueyard.grammars import Grammar
from tongueyard.layouts import Layout
from tongueyard.printing import packed, printed, printed_spans
from tongueyard.reading import only_shape
from tongueyard.trees import nodes_of, part_at

LETTERS = "abcdefghijklmnopqrstuvwxyz"
KINDS = [("name", more(signs(LETTERS)), False), ("num", more(DIGITS), False),
         ("op", either(signs("+"), word("++")), False),
         ("left", signs("("), False), ("right", signs(")"), False), ("text",
             then(signs("\""), ("again", signs("\na")), signs("\"")), False),
         ("gap", more(either(signs("\n "), then(signs("#"), ("again", signs("ab ")), signs("\n")))), True)]
TEXTS = {"name": ["a", "bcd", "zz"], "num": ["7", "123"], "op": ["+", "++"], "left": ["("], "right": [")"],
         "text": ["\"a\"", "\"\n\n\""]}
CALLS = grammar_of("""
    all: none | some all name args
    args: plain | list left parts right | op op
    parts: no | one part | two part op parts
    part: leaf name | figs num | said text | call name args""", kinds=KINDS)
BLOCK = {"some": ("row", "near"), "list": ("in", "out"), "two": ("blank", "row"), "call": ("blank",)}


def tree_with(grammar, shape, chance, texts=TEXTS):
    return shape, tuple((kind, chance.choice(texts[kind])) for kind in spelled_plainly(grammar, shape))


def some_trees(grammar, seed, most, many, texts=TEXTS):
    chance = Random(seed)
    shapes = sorted(shapes_up_to(grammar, most))
    return [tree_with(grammar, shape, chance, texts) for shape in chance.sample(shapes, min(many, len(shapes)))]


def refusal(call):
    try:
        return call()
    except (NoTree, NotGood, NoPrint) as found:
        return type(found), found.node if isinstance(found, NoTree) else found.number


class Plain(unittest.TestCase):
    def test_by_hand(self):
        tree = (("some", "none", "list", "two", "call", "plain", "one", "figs"),
                (("name", "f"), ("left", "("), ("name", "a"), ("op", "+"), ("num", "12"), ("right", ")")))
        self.assertEqual(printed(Layout(CALLS, {}), tree), "f(a + 12)".replace(" ", ""))
        self.assertEqual(printed(Layout(CALLS, BLOCK), tree), "f(\n  a +\n  12\n)")
        self.assertEqual(printed_spans(Layout(CALLS, BLOCK), tree),
                         ("f(\n  a +\n  12\n)", [(0, 1), (1, 2), (5, 6), (7, 8), (11, 13), (14, 15)]))
        self.assertEqual(printed(Layout(CALLS, {"two": ("blank", "soft"), "list": ("soft", "soft")}), tree),
                         "f( a + 12 )")
        self.assertEqual(printed(Layout(CALLS, {"two": ("blank", "soft"), "list": ("soft", "soft")}), tree, width=9),
                         "f(\na + 12\n)")
        self.assertEqual(printed(Layout(CALLS, {"two": ("blank", "soft"), "list": ("soft", "soft")}), tree, width=10),
                         "f( a + 12 )")

    def test_depths_of_nested_ones(self):
        layout = Layout(CALLS, {"list": ("in", "out")})
        inner = ("call", "list", "one", "call", "list", "one", "leaf")
        tree = (("some", "none", "list", "one") + inner,
                tuple(("name" if sign == "n" else "left" if sign == "(" else "right", sign)
                                                              for sign in "n(n(n(n)))"))
        text = "n(\n  n(\n    n(\n      n\n    )\n  )\n)"
        self.assertEqual(printed(layout, tree), text)
        self.assertEqual(printed(layout, tree, width=0), text)

    def test_marks_of_what_has_no_words(self):
        grammar = grammar_of("a: p x b x\n b: q c c | r x c | s\n c: t")
        for marks, shape, width, text in (
                ({"q": ("row",)}, "pqtt", None, "x\nx"), ({"q": ("soft",)}, "pqtt", None, "x x"),
                                          ({"q": ("soft",)}, "pqtt", 0, "x x"),
                ({"p": ("blank", "near")}, "ps", None, "x x"), ({"p": ("near", "row")}, "ps", None, "x\nx"),
                                          ({"p": ("soft", "near")}, "ps", 2, "x\nx"),
                ({"p": ("soft", "near")}, "ps", 3, "x x"), ({"r": ("soft",)}, "prt", 0, "xx\nx"),
                                          ({"r": ("soft",)}, "prt", 1, "xx x"),
                ({"p": ("in", "out")}, "ps", None, "x\nx"), ({"p": ("in", "out")}, "prt", None, "x\n  x\nx"),
                ({"p": ("soft", "soft"), "r": ("row",)}, "prt", None, "x\nx\nx")):
            # Without a skipped kind nothing holds but what is near, so there is one here.
            kinds = grammar.kinds() + [("gap", more(signs("\n ")), True)]
            whole = Grammar(kinds, grammar.rules())
            tree = (tuple(shape), (("x", "x"),) * (3 if "r" in shape else 2))
            self.assertEqual(printed(Layout(whole, marks), tree, width=width), text, (marks, shape))
            self.assertEqual(printed(Layout(whole, marks), tree, width=width),
                             PlainPrint(whole, marks, tree, width).told()[0])

    def test_no_words_and_one(self):
        for shape, words in ((("none",), ()), (("some", "none", "plain"), (("name", "q"),))):
            text = "".join(told for _, told in words)
            for width in (None, 0, 1, 9):
                self.assertEqual(printed_spans(Layout(CALLS, BLOCK), (shape, words), width=width),
                                 (text, [(0, 1)][:len(words)]))

    def test_against_a_slow_one(self):
        chance = Random(8)
        rows, firsts = 0, 0
        for number, tree in enumerate(some_trees(CALLS, 5, 9, 110)):
            marks = BLOCK if number % 5 == 0 else some_marks(CALLS, chance)
            layout = Layout(CALLS, marks)
            last = None
            for width in [*range(0, 14, 1 + number % 4), 25, None]:
                told = printed_spans(layout, tree, width=width)
                self.assertEqual(told, PlainPrint(CALLS, marks, tree, width).told())
                self.assertEqual(printed(layout, tree, width=width), told[0])
                self.assertIs(type(told), tuple)
                self.assertIs(type(told[1]), list)
                # The words stand where they are told to, and the text is cut to them again.
                self.assertEqual([told[0][start:behind] for start, behind in told[1]], [text for _, text in tree[1]])
                self.assertEqual(cut_words(KINDS, told[0]), list(tree[1]))
                gaps = [told[0][one[1]:other[0]] for one, other in zip(told[1], told[1][1:])]
                many = sum("\n" in gap for gap in gaps)
                self.assertTrue(last is None or many <= last)
                last = many
                rows += many
                firsts += 1
        self.assertGreater(rows, firsts)

    def test_a_flat_node_stands_as_reckoned(self):
        layout = Layout(CALLS, {"some": ("row", "soft"), "list": ("soft", "soft"), "two": ("soft", "soft"),
                                "call": ("soft",)})
        for tree in some_trees(CALLS, 9, 9, 30):
            for width in (8, 12, 20):
                text, spans = printed_spans(layout, tree, width=width)
                for node, (_, _, first, behind, _) in enumerate(nodes_of(CALLS, tree[0])):
                    if behind > first:
                        part = PlainPrint(CALLS, {label: layout.marks_of(label) for label in CALLS.labels()}, tree,
                                          width)
                        if part.is_flat(node):
                            told = text[spans[first][0]:spans[behind - 1][1]]
                            self.assertLessEqual(len(told), width)
                            self.assertEqual(told.count("\n"), sum(word.count("\n") for _,
                                word in part_at(CALLS, tree, node)[1]))


class Refused(unittest.TestCase):
    def test_order_of_refusals(self):
        layout = Layout(SUMS, {})
        good = (("one", "leaf"), (("num", "12"),))
        self.assertEqual(printed(layout, good), "12")
        for thing, node in ((None, None), ((), None), (("one",), None), ((("one", "leaf"), (("num", "1x"),)), None),
                            ((("one", "leaf"), ()), None),
                            ((("one",), ()), 1), ((("leaf",), (("num", "1"),)), 0), ((("one", "leaf", "leaf"), ()), 2),
                            ([("one",), ()], None)):
            for call in (lambda: printed(layout, thing), lambda: printed_spans(layout, thing),
                         lambda: packed(SUMS, thing),
                         lambda: printed(layout, thing, width=3)):
                self.assertEqual(refusal(call), (NoTree, node), thing)

    def test_not_good(self):
        # A word of the second kind is one of the first; and one is more pieces than one.
        kinds = [("x", word("ab"), False), ("y", more(signs("ab")), False),
                 ("z", then(signs("c"), maybe(signs("d"))), False)]
        grammar = grammar_of("a: p | q y a | r x a | s z a", kinds=kinds)
        for shape, words, number in (("qp", "ab", 0), ("qqp", "b ab", 1), ("qrqp", "b ab ab", 2),
                                     ("qqqp", "ab b ab", 0)):
            tree = (tuple(shape), tuple(("x" if label == "r" else "y", text) for label,
                                        text in zip(shape, words.split())))
            self.assertEqual(refusal(lambda: printed(Layout(grammar, {}), tree)), (NotGood, number))
            self.assertEqual(refusal(lambda: packed(grammar, tree)), (NotGood, number))
        # Not good goes ahead of what has no gap, wherever that is.
        tree = (tuple("sqsqp"), (("z", "c"), ("y", "b"), ("z", "cd"), ("y", "ab")))
        self.assertEqual(refusal(lambda: printed(Layout(grammar, {}), tree)), (NotGood, 3))
        tree = (tuple("qqqp"), (("y", "b"), ("y", "b"), ("y", "ab")))
        self.assertEqual(refusal(lambda: printed(Layout(grammar, {}), tree)), (NotGood, 2))

    def test_no_print(self):
        kinds = [("num", more(DIGITS), False), ("plus", signs("+"), False), ("gap", signs(" "), True)]
        grammar = Grammar(kinds, SUMS.rules())
        words = (("num", "1"), ("plus", "+"), ("num", "2"))
        tree = (("both", "one", "leaf", "leaf"), words)
        self.assertEqual(printed(Layout(grammar, {"both": ("blank", "near")}), tree), "1 +2")
        # No line feed is skipped by these kinds.
        self.assertEqual(refusal(lambda: printed(Layout(grammar, {"both": ("row", "near")}), tree)), (NoPrint, 0))
        self.assertEqual(refusal(lambda: printed(Layout(grammar, {"both": ("near", "row")}), tree)), (NoPrint, 1))
        self.assertEqual(refusal(lambda: printed(Layout(grammar, {"both": ("row", "row")}), tree)), (NoPrint, 0))
        self.assertEqual(refusal(lambda: printed(Layout(grammar, {"both": ("soft", "soft")}), tree, width=4)),
                         (NoPrint, 0))
        self.assertEqual(printed(Layout(grammar, {"both": ("soft", "soft")}), tree, width=5), "1 + 2")
        bare = Grammar(kinds[:2], [("a", [("p", ("num", "num", "plus", "num", "num"))])])
        tree = (("p",), (("num", "1"), ("num", "2"), ("plus", "+"), ("num", "3"), ("num", "4")))
        self.assertEqual(refusal(lambda: packed(bare, tree)), (NoPrint, 0))
        self.assertEqual(refusal(lambda: printed(Layout(bare, {"p": ("near", "blank", "near", "near")}), tree)),
                         (NoPrint, 0))

    def test_bars(self):
        grammar = BARRED["sums"]
        self.assertEqual(printed(Layout(grammar, {}), (("p", "r", "r"), (("y", "y"), ("x", "x"), ("y", "y")))), "yxy")
        tree = (("p", "r", "p", "r", "r"), (("y", "y"), ("x", "x"), ("y", "y"), ("x", "x"), ("y", "y")))
        self.assertEqual(refusal(lambda: printed(Layout(grammar, {}), tree)), (NoTree, 2))


class Packed(unittest.TestCase):
    def test_the_first_gap_that_holds(self):
        for tree in some_trees(CALLS, 17, 9, 60):
            text = packed(CALLS, tree)
            words = [told for _, told in tree[1]]
            wanted = words[0] if words else ""
            for one, other in zip(words, words[1:]):
                wanted += [gap for gap in ("", " ", "\n") if gap_holds(KINDS, one, gap, other)][0] + other
            self.assertEqual(text, wanted)
            self.assertEqual(text, printed(Layout(CALLS, {}), tree))
            self.assertEqual(cut_words(KINDS, text), list(tree[1]))

    def test_a_line_end_where_a_blank_does_not_hold(self):
        # Behind a remark a blank would be a sign of it.
        kinds = [("rem", then(signs("#"), ("again", signs("ab "))), False), ("name", more(signs("ab")), False),
                 ("gap", more(signs("\n ")), True)]
        grammar = grammar_of("a: p rem name | q name name", kinds=kinds)
        self.assertEqual(packed(grammar, (("p",), (("rem", "#ab"), ("name", "a")))), "#ab\na")
        self.assertEqual(packed(grammar, (("q",), (("name", "b"), ("name", "a")))), "b a")
        self.assertEqual(printed(Layout(grammar, {"p": ("blank",)}), (("p",), (("rem", "#ab"), ("name", "a")))),
                         "#ab\na")


class Again(unittest.TestCase):
    def test_read_again(self):
        grammar = Grammar(KINDS, [("sum", [("one", ("name",)), ("both", ("sum", "op", "name"))])])
        for tree in some_trees(grammar, 4, 5, 20):
            for marks in ({}, {"both": ("soft", "soft")}, {"both": ("row", "blank")}):
                for width in (None, 0, 6):
                    text = printed(Layout(grammar, marks), tree, width=width)
                    words = cut_words(KINDS, "\n #ab \n " + text)
                    again = only_shape(grammar, [kind for kind, _ in words]), tuple(words)
                    self.assertEqual(again, tree)
                    self.assertEqual(printed(Layout(grammar, marks), again, width=width), text)

    def test_a_long_tree(self):
        grammar = Grammar(KINDS, [("sum", [("one", ("name",)), ("both", ("sum", "op", "name"))])])
        shape = ("both",) * 1500 + ("one",)
        words = (("name", "a"),) + (("op", "+"), ("name", "bc")) * 1500
        text = printed(Layout(grammar, {"both": ("soft", "soft")}), (shape, words), width=30)
        self.assertEqual(text.count("\n"), 2 * (1500 - (30 - 1) // 5))
        self.assertEqual(text.count(" "), 2 * ((30 - 1) // 5))
