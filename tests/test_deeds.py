"""Points 139 and 140: deeds on grammars, the steps that come of them, and rows of deeds."""

import copy
import unittest
from random import Random

from tests.brute import more, signs, word
from tests.brute_bridges import plain_led, some_words
from tests.brute_grammars import BARRED, NAMED, SUMS, grammar_of, is_barred, nested, rows_of, shapes_up_to
from tongueyard.bridges import Bridge, Step, led, step_fault, turned
from tongueyard.deeds import done, turn
from tongueyard.errors import NoBack, NoDeed, NoGrammar, NoLead, NotDone
from tongueyard.grammars import Grammar
from tongueyard.patterns import least_spelled

KINDS = [("x", signs("x"), False), ("y", more(signs("xy")), False), ("gap", signs(" "), True)]
RULES = [("a", [("p", ("b", "x", "a")), ("q", ("x",)), ("r", ())]), ("b", [("s", ("y", "a"))]),
         ("c", [("t", ("c", "x")), ("u", ("b", "a"))])]
BARS = (("p", 3, "p"), ("s", 2, "r"), ("u", 2, "q"), ("t", 1, "t"))
BASE = Grammar(KINDS, RULES, bars=BARS)


def parts(*places):
    return tuple(("part", place) for place in places)


def plain_templates(grammar, **others):
    found = {label: (("node", label),) + parts(*range(1, len(row) + 1)) for label, row in rows_of(grammar).items()}
    found.update(others)
    return {label: pieces for label, pieces in found.items() if pieces is not None}


def names_of(grammar, **others):
    found = {name: name for name in [one[0] for one in grammar.kinds() + grammar.rules()]}
    found.update(others)
    return {name: other for name, other in found.items() if other is not None}


def refusal(call):
    try:
        return call()
    except NoDeed as found:
        return NoDeed, found.word
    except NoGrammar as found:
        return NoGrammar, found.what, found.name


class Done(unittest.TestCase):
    def check(self, deed, new, names, templates, grammar=BASE):
        told = done(grammar, deed)
        self.assertIs(type(told), tuple)
        self.assertEqual(told[0], new)
        self.assertEqual(told[1], Step(grammar, new, names, templates))
        self.assertIsNone(step_fault(told[1]))

    def test_call(self):
        rules = [("a", [("p", ("b", "z", "a")), ("q", ("z",)), ("r", ())]), RULES[1],
                 ("c", [("t", ("c", "z")), ("u", ("b", "a"))])]
        self.check(("call", "x", "z"), Grammar([("z",) + KINDS[0][1:]] + KINDS[1:], rules, bars=BARS),
                   names_of(BASE, x="z"), plain_templates(BASE))
        rules = [("z", [("p", ("b", "x", "z")), ("q", ("x",)), ("r", ())]), ("b", [("s", ("y", "z"))]),
                 ("c", [("t", ("c", "x")), ("u", ("b", "z"))])]
        self.check(("call", "a", "z"), Grammar(KINDS, rules, bars=BARS), names_of(BASE, a="z"), plain_templates(BASE))
        self.check(("call", "a", "a"), BASE, names_of(BASE), plain_templates(BASE))
        begun = Grammar(KINDS, RULES, begin="c", bars=BARS)
        self.assertEqual(done(begun, ("call", "c", "d"))[0].begin(), "d")
        self.assertEqual(done(begun, ("call", "gap", "gaps"))[0].kinds()[2], ("gaps", signs(" "), True))

    def test_label(self):
        rules = [("a", [("p", ("b", "x", "a")), ("q", ("x",)), ("rr", ())])] + RULES[1:]
        bars = (("p", 3, "p"), ("s", 2, "rr"), ("u", 2, "q"), ("t", 1, "t"))
        self.check(("label", "r", "rr"), Grammar(KINDS, rules, bars=bars), names_of(BASE),
                   plain_templates(BASE, r=(("node", "rr"),)))
        told = done(BASE, ("label", "t", "tt"))[0]
        self.assertEqual(told.bars(), BARS[:3] + (("tt", 1, "tt"),))
        self.check(("label", "t", "t"), BASE, names_of(BASE), plain_templates(BASE))

    def test_add_and_drop(self):
        for at in range(4):
            alternatives = RULES[0][1][:at] + [("new", ("y", "c"))] + RULES[0][1][at:]
            self.check(("add", "a", at, "new", ("y", "c")), Grammar(KINDS, [("a", alternatives)] + RULES[1:],
                bars=BARS), names_of(BASE), plain_templates(BASE))
        self.check(("add", "b", 1, "new", ()), Grammar(KINDS, [RULES[0], ("b", [("s", ("y", "a")), ("new", ())]),
            RULES[2]], bars=BARS), names_of(BASE),
                   plain_templates(BASE))
        for label, bars in (("p", BARS[1:]), ("q", BARS[:2] + BARS[3:]), ("r", BARS[:1] + BARS[2:])):
            rules = [("a", [one for one in RULES[0][1] if one[0] != label])] + RULES[1:]
            self.check(("drop", label), Grammar(KINDS, rules, bars=bars), names_of(BASE),
                       plain_templates(BASE, **{label: None}))
        self.assertEqual(done(BASE, ("drop", "t"))[0].bars(), BARS[:3])

    def test_rule_and_norule(self):
        for at in range(4):
            rules = RULES[:at] + [("d", [("v", ("a", "d")), ("w", ())])] + RULES[at:]
            self.check(("rule", at, "d", [("v", ("a", "d")), ("w", ())]), Grammar(KINDS, rules, begin="a", bars=BARS),
                       names_of(BASE), plain_templates(BASE))
        self.check(("norule", "c"), Grammar(KINDS, RULES[:2], bars=BARS[:2]), names_of(BASE, c=None),
                   plain_templates(BASE, t=None, u=None))
        alternatives = [("v", ())]
        new = done(BASE, ("rule", 0, "d", alternatives))[0]
        alternatives.append(("w", ()))
        self.assertEqual(new.labels_of("d"), ["v"])

    def test_word_noword_and_kind(self):
        for at in range(4):
            kinds = KINDS[:at] + [("z", word("zz"), at == 2)] + KINDS[at:]
            self.check(("word", at, "z", word("zz"), at == 2), Grammar(kinds, RULES, bars=BARS), names_of(BASE),
                       plain_templates(BASE))
        self.check(("noword", "gap"), Grammar(KINDS[:2], RULES, bars=BARS), names_of(BASE, gap=None),
                   plain_templates(BASE))
        kinds = [KINDS[0], ("y", word("yy"), False), KINDS[2]]
        self.check(("kind", "y", word("yy"), False), Grammar(kinds, RULES, bars=BARS), names_of(BASE),
                   plain_templates(BASE))
        self.check(("kind", "gap", signs("\n"), False), Grammar(KINDS[:2] + [("gap", signs("\n"), False)], RULES,
            bars=BARS), names_of(BASE),
                   plain_templates(BASE))

    def test_begin(self):
        self.check(("begin", "c"), Grammar(KINDS, RULES, begin="c", bars=BARS), names_of(BASE), plain_templates(BASE))
        self.check(("begin", "a"), BASE, names_of(BASE), plain_templates(BASE))

    def test_turn(self):
        rules = [("a", [("p", ("a", "b", "x")), ("q", ("x",)), ("r", ())])] + RULES[1:]
        bars = (("p", 1, "p"),) + BARS[1:]
        self.check(("turn", "p", (3, 1, 2)), Grammar(KINDS, rules, bars=bars), names_of(BASE),
                   plain_templates(BASE, p=(("node", "p"),) + parts(3, 1, 2)))
        self.check(("turn", "p", (1, 2, 3)), BASE, names_of(BASE), plain_templates(BASE))
        self.check(("turn", "r", ()), BASE, names_of(BASE), plain_templates(BASE))
        rules = RULES[:2] + [("c", [("t", ("x", "c")), ("u", ("b", "a"))])]
        self.check(("turn", "t", (2, 1)), Grammar(KINDS, rules, bars=BARS[:3] + (("t", 2, "t"),)), names_of(BASE),
                   plain_templates(BASE, t=(("node", "t"),) + parts(2, 1)))

    def test_put(self):
        for at, row, place in ((1, ("y", "b", "x", "a"), 4), (2, ("b", "y", "x", "a"), 4), (3, ("b", "x", "y", "a"), 4),
                               (4, ("b", "x", "a", "y"), 3)):
            rules = [("a", [("p", row), ("q", ("x",)), ("r", ())])] + RULES[1:]
            pieces = [("node", "p")] + list(parts(1, 2, 3))
            pieces.insert(at, ("word", "y", "xyx"))
            self.check(("put", "p", at, "y", "xyx"), Grammar(KINDS, rules, bars=(("p", place, "p"),) + BARS[1:]),
                       names_of(BASE),
                       plain_templates(BASE, p=tuple(pieces)))
        rules = [("a", [("p", ("b", "x", "a")), ("q", ("x",)), ("r", ("a",))])] + RULES[1:]
        stuff = (("p", "s", "q", "q"), (("y", "xy"), ("x", "x"), ("x", "x"), ("x", "x")))
        self.check(("put", "r", 1, "a", stuff), Grammar(KINDS, rules, bars=BARS), names_of(BASE),
                   plain_templates(BASE, r=(
            ("node", "r"), ("node", "p"), ("node", "s"), ("word", "y", "xy"), ("node", "q"), ("word", "x", "x"),
                                            ("word", "x", "x"), ("node", "q"), ("word", "x", "x"))))

    def test_take(self):
        for at, row, bars in ((1, ("x", "a"), (("p", 2, "p"),)), (2, ("b", "a"), (("p", 2, "p"),)),
                              (3, ("b", "x"), ())):
            rules = [("a", [("p", row), ("q", ("x",)), ("r", ())])] + RULES[1:]
            places = [place for place in (1, 2, 3) if place != at]
            self.check(("take", "p", at), Grammar(KINDS, rules, bars=bars + BARS[1:]), names_of(BASE),
                       plain_templates(BASE, p=(("node", "p"),) + parts(*places)))
        rules = [("a", [("p", ("b", "x", "a")), ("q", ()), ("r", ())])] + RULES[1:]
        self.check(("take", "q", 1), Grammar(KINDS, rules, bars=BARS), names_of(BASE),
                   plain_templates(BASE, q=(("node", "q"),)))

    def test_fold(self):
        cases = [(1, 3, ("d", "a"), ("b", "x"), (("p", 2, "p"),), (("node", "p"), ("node", "i"), ("part", 1),
            ("part", 2), ("part", 3))),
                 (2, 4, ("b", "d"), ("x", "a"), (("i", 2, "p"),), (("node", "p"), ("part", 1), ("node", "i"),
                     ("part", 2), ("part", 3))),
                 (3, 4, ("b", "x", "d"), ("a",), (("i", 1, "p"),), (("node", "p"), ("part", 1), ("part", 2),
                     ("node", "i"), ("part", 3))),
                 (1, 4, ("d",), ("b", "x", "a"), (("i", 3, "p"),), (("node", "p"), ("node", "i"), ("part", 1),
                     ("part", 2), ("part", 3))),
                 (1, 2, ("d", "x", "a"), ("b",), (("p", 3, "p"),), (("node", "p"), ("node", "i"), ("part", 1),
                     ("part", 2), ("part", 3)))]
        for at, behind, row, run, bars, pieces in cases:
            rules = [("a", [("p", row), ("q", ("x",)), ("r", ())])] + RULES[1:] + [("d", [("i", run)])]
            self.check(("fold", "p", at, behind, "d", "i"), Grammar(KINDS, rules, bars=bars + BARS[1:]), names_of(BASE),
                       plain_templates(BASE, p=pieces))

    def test_unfold(self):
        rules = [("a", [("p", ("y", "a", "x", "a")), ("q", ("x",)), ("r", ())])] + RULES[1:]
        bars = (("p", 4, "p"),) + BARS[1:] + (("p", 2, "r"),)
        self.check(("unfold", "p", 1), Grammar(KINDS, rules, bars=bars), names_of(BASE),
                   plain_templates(BASE, p=(("node", "p"), ("within", 1, "s", 1), ("within", 1, "s", 2), ("part", 2),
                                            ("part", 3))))
        rules = RULES[:2] + [("c", [("t", ("c", "x")), ("u", ("y", "a", "a"))])]
        bars = BARS[:2] + (("u", 3, "q"), ("t", 1, "t"), ("u", 2, "r"))
        self.check(("unfold", "u", 1), Grammar(KINDS, rules, bars=bars), names_of(BASE),
                   plain_templates(BASE, u=(("node", "u"), ("within", 1, "s", 1), ("within", 1, "s", 2), ("part", 2))))
        # Of an alternative without symbols nothing stands there.
        empty = Grammar(KINDS, [("a", [("p", ("x", "b", "a")), ("q", ())]), ("b", [("s", ())])], bars=(("p", 3, "p"),))
        new = Grammar(KINDS, [("a", [("p", ("x", "a")), ("q", ())]), ("b", [("s", ())])], bars=(("p", 2, "p"),))
        self.check(("unfold", "p", 2), new, names_of(empty), plain_templates(empty,
            p=(("node", "p"), ("part", 1), ("part", 3))), empty)
        # The bars of the alternative stand behind all others, in their order.
        some = Grammar(KINDS, [("a", [("p", ("b", "a")), ("q", ())]), ("b", [("s", ("a", "a"))])],
                       bars=(("s", 2, "q"), ("p", 2, "p"), ("s", 1, "p"), ("p", 2, "q"), ("s", 1, "q")))
        self.assertEqual(done(some, ("unfold", "p", 1))[0].bars(), (("s", 2, "q"), ("p", 3, "p"), ("s", 1, "p"),
            ("p", 3, "q"), ("s", 1, "q"),
                                                                    ("p", 2, "q"), ("p", 1, "p"), ("p", 1, "q")))

    def test_bars_at_all_places_go_along(self):
        some = Grammar(KINDS, [("a", [("p", ("a", "b", "a", "b", "a")), ("q", ())]), ("b", [("s", ("a", "x"))])],
                       bars=(("p", 5, "p"), ("p", 1, "q"), ("s", 1, "p"), ("p", 3, "p"), ("p", 4, "s"), ("p", 1, "p")))
        for deed, bars in (
                (("put", "p", 3, "x", "x"), (("p", 6, "p"), ("p", 1, "q"), ("s", 1, "p"), ("p", 4, "p"), ("p", 5, "s"), ("p", 1, "p"))),
                (("put", "p", 1, "x", "x"), (("p", 6, "p"), ("p", 2, "q"), ("s", 1, "p"), ("p", 4, "p"), ("p", 5, "s"), ("p", 2, "p"))),
                (("take", "p", 2), (("p", 4, "p"), ("p", 1, "q"), ("s", 1, "p"), ("p", 2, "p"), ("p", 3, "s"), ("p", 1, "p"))),
                (("take", "p", 1), (("p", 4, "p"), ("s", 1, "p"), ("p", 2, "p"), ("p", 3, "s"))),
                (("turn", "p", (5, 4, 1, 2, 3)), (("p", 1, "p"), ("p", 3, "q"), ("s", 1, "p"), ("p", 5, "p"), ("p", 2, "s"), ("p", 3, "p"))),
                (("fold", "p", 2, 4, "new", "n"), (("p", 4, "p"), ("p", 1, "q"), ("s", 1, "p"), ("n", 2, "p"), ("p", 3, "s"), ("p", 1, "p"))),
                (("unfold", "p", 2), (("p", 6, "p"), ("p", 1, "q"), ("s", 1, "p"), ("p", 4, "p"), ("p", 5, "s"), ("p", 1, "p"), ("p", 2, "p")))):
            new, step = done(some, deed)
            self.assertEqual(new.bars(), bars, deed)
            self.assertIsNone(step_fault(step))

    def test_bar_and_nobar(self):
        self.check(("bar", "p", 1, "s"), Grammar(KINDS, RULES, bars=BARS + (("p", 1, "s"),)), names_of(BASE),
                   plain_templates(BASE))
        for bar in BARS:
            left = tuple(one for one in BARS if one != bar)
            self.check(("nobar",) + bar, Grammar(KINDS, RULES, bars=left), names_of(BASE), plain_templates(BASE))

    def test_folded_and_unfolded(self):
        for grammar in (BASE, SUMS, NAMED["half"], NAMED["nullable"], BARRED["sums"], BARRED["still"]):
            for label in grammar.labels():
                row = grammar.row_of(label)
                for at in range(1, len(row) + 1):
                    for behind in range(at + 1, len(row) + 2):
                        folded, bridge = turn(grammar, [("fold", label, at, behind, "zz", "zy"), ("unfold", label, at),
                                                        ("norule", "zz")])
                        self.assertEqual(folded.rules(), grammar.rules())
                        self.assertEqual(sorted(folded.bars()), sorted(grammar.bars()))
                        for shape in sorted(shapes_up_to(grammar, 4))[:5]:
                            tree = (shape, some_words(grammar, shape, Random(1)))
                            self.assertEqual(led(bridge, tree, keep=True),
                                             (tree, {at: at for at in range(len(shape))},
                                              {at: at for at in range(len(tree[1]))}))


class Refused(unittest.TestCase):
    def test_no_deed(self):
        for deed in (
                ("call", "z", "d"), ("call", "p", "d"), ("call", "", "d"), ("label", "z", "d"), ("label", "a", "d"),
                     ("label", "x", "d"),
                ("add", "z", 0, "new", ()), ("add", "x", 0, "new", ()), ("add", "p", 0, "new", ()),
                     ("add", "a", 4, "new", ()), ("add", "a", -1, "new", ()), ("add", "b", 2, "new", ()),
                ("drop", "z"), ("drop", "a"), ("rule", 4, "d", [("v", ())]), ("rule", -1, "d", [("v", ())]),
                     ("norule", "z"), ("norule", "x"), ("norule", "p"),
                ("word", 4, "z", signs("z"), False), ("word", -1, "z", signs("z"), False), ("noword", "z"),
                     ("noword", "a"), ("kind", "z", signs("z"), False), ("kind", "a", signs("z"), False),
                ("turn", "z", ()), ("turn", "p", (1, 2)), ("turn", "p", (1, 2, 2)), ("turn", "p", (0, 1, 2)),
                     ("turn", "p", (1, 2, 3, 4)), ("turn", "p", ()), ("turn", "r", (1,)), ("turn", "p", (1, 2, 4)),
                ("put", "z", 1, "x", "x"), ("put", "p", 0, "x", "x"), ("put", "p", 5, "x", "x"),
                     ("put", "r", 2, "x", "x"), ("put", "p", -1, "x", "x"),
                ("put", "p", 1, "x", "y"), ("put", "p", 1, "x", ""), ("put", "p", 1, "x", (("q",), (("x", "x"),))),
                     ("put", "p", 1, "x", None), ("put", "p", 1, "a", "x"),
                ("put", "p", 1, "a", (("s",), ())), ("put", "p", 1, "a", (("q",), ())), ("put", "p", 1, "a", None),
                     ("put", "p", 1, "a", ()), ("put", "p", 1, "b", (("q",), (("x", "x"),))),
                ("put", "p", 1, "a", (("p", "s", "q", "p"), (("y", "xy"), ("x", "x"), ("x", "x")))),
                     ("put", "p", 1, "y", "xyz"), ("put", "p", 1, "a", (("p", "s", "r", "q"),
                         (("y", "y"), ("x", "x"), ("x", "x")))),
                ("take", "z", 1), ("take", "p", 0), ("take", "p", 4), ("take", "r", 1), ("take", "p", -1),
                ("fold", "z", 1, 2, "d", "i"), ("fold", "p", 0, 2, "d", "i"), ("fold", "p", 1, 5, "d", "i"),
                     ("fold", "p", 2, 2, "d", "i"), ("fold", "p", 3, 1, "d", "i"), ("fold", "r", 1, 1, "d", "i"),
                     ("fold", "p", 4, 5, "d", "i"),
                ("unfold", "z", 1), ("unfold", "p", 0), ("unfold", "p", 4), ("unfold", "p", 2), ("unfold", "p", 3),
                     ("unfold", "r", 1), ("unfold", "t", 1),
                ("nobar", "p", 3, "q"), ("nobar", "p", 1, "p"), ("nobar", "z", 3, "p"), ("other", "p"), ("", "p")):
            ahead = copy.deepcopy(deed)
            self.assertEqual(refusal(lambda: done(BASE, deed)), (NoDeed, deed[0]), deed)
            self.assertEqual(deed, ahead)

    def test_unfold_of_what_is_barred_or_itself(self):
        one = grammar_of("a: p b | q\n b: s b", bars=(("p", 1, "s"),))
        self.assertEqual(refusal(lambda: done(one, ("unfold", "p", 1))), (NoDeed, "unfold"))
        self.assertEqual(refusal(lambda: done(one, ("unfold", "s", 1))), (NoDeed, "unfold"))
        other = grammar_of("a: p b | q\n b: s b", bars=(("s", 1, "s"),))
        self.assertEqual(refusal(lambda: done(other, ("unfold", "s", 1))), (NoDeed, "unfold"))
        self.assertEqual(done(other, ("unfold", "p", 1))[0].bars(), (("s", 1, "s"), ("p", 1, "s")))

    def test_no_grammar(self):
        for deed, what, name in (
                (("call", "x", "Z"), "name", "Z"), (("call", "x", "word"), "name", "word"),
                                 (("call", "x", "y"), "twice", "y"), (("call", "x", "a"), "twice", "a"),
                (("call", "a", "c"), "twice", "c"), (("call", "a", "gap"), "twice", "gap"),
                                 (("call", "a", ""), "name", ""), (("label", "p", "q"), "again", "q"),
                                 (("label", "p", "rule"), "label", "rule"),
                (("label", "u", "q"), "again", "q"), (("label", "p", "toolonger"), "label", "toolonger"),
                (("add", "a", 0, "q", ()), "again", "q"), (("add", "a", 3, "q", ()), "again", "q"),
                                 (("add", "a", 0, "W", ()), "label", "W"),
                                 (("add", "a", 0, "w", ("x",) * 7), "long", "w"),
                (("add", "a", 0, "w", ("x", "z")), "symbol", "z"), (("add", "a", 0, "w", ("x", "gap")), "skipped",
                    "gap"), (("drop", "s"), "bare", "b"),
                (("rule", 0, "a", [("v", ())]), "twice", "a"), (("rule", 0, "x", [("v", ())]), "twice", "x"),
                                 (("rule", 1, "d", []), "bare", "d"), (("rule", 1, "d", [("v", ()), ("v", ())]),
                                     "again", "v"),
                (("rule", 1, "d", [("q", ())]), "again", "q"), (("rule", 1, "d", [("v", ("e",))]), "symbol", "e"),
                                 (("rule", 1, "dd9", [("v", ())]), "name", "dd9"),
                (("norule", "a"), "symbol", "a"), (("norule", "b"), "symbol", "b"),
                                 (("word", 0, "x", signs("z"), False), "twice", "x"),
                                 (("word", 0, "a", signs("z"), False), "twice", "a"),
                (("word", 0, "Z", signs("z"), False), "name", "Z"), (("word", 0, "z", ("again", signs("z")), False),
                    "empty", "z"), (("noword", "x"), "symbol", "x"), (("noword", "y"), "symbol", "y"),
                (("kind", "x", ("empty",), False), "empty", "x"), (("kind", "x", signs("x"), True), "skipped", "x"),
                                 (("begin", "z"), "begin", "z"), (("begin", "x"), "begin", "x"),
                                 (("begin", "p"), "begin", "p"),
                (("put", "p", 1, "z", "x"), "symbol", "z"), (("put", "p", 1, "gap", " "), "skipped", "gap"),
                                 (("put", "p", 1, "p", None), "symbol", "p"),
                                 (("put", "p", 1, "z", None), "symbol", "z"),
                (("fold", "p", 1, 2, "a", "i"), "twice", "a"), (("fold", "p", 1, 2, "x", "i"), "twice", "x"),
                                 (("fold", "p", 1, 2, "d", "q"), "again", "q"),
                                 (("fold", "p", 1, 2, "d", "p"), "again", "p"),
                (("fold", "p", 1, 2, "D", "i"), "name", "D"), (("fold", "p", 1, 2, "d", "skip"), "label", "skip"),
                (("bar", "p", 3, "p"), "bar", "p"), (("bar", "z", 3, "p"), "bar", "z"),
                                 (("bar", "p", 2, "p"), "bar", "p"), (("bar", "p", 1, "q"), "bar", "p"),
                                 (("bar", "p", 0, "q"), "bar", "p"),
                (("bar", "p", 4, "q"), "bar", "p"), (("bar", "q", 1, "z"), "bar", "q")):
            self.assertEqual(refusal(lambda: done(BASE, deed)), (NoGrammar, what, name), deed)

    def test_too_much_and_too_little(self):
        one = grammar_of("a: p x", kinds=KINDS[:1])
        self.assertEqual(refusal(lambda: done(one, ("norule", "a"))), (NoGrammar, "many", None))
        self.assertEqual(refusal(lambda: done(one, ("noword", "x"))), (NoGrammar, "many", None))
        full = grammar_of("a: p x x x x x x | q b\n b: r x x", kinds=[("k" + letter, signs(letter),
            False) for letter in "abcdefghijklm"] + KINDS[:1])
        self.assertEqual(refusal(lambda: done(full, ("word", 0, "z", signs("z"), False))), (NoGrammar, "many", None))
        self.assertEqual(refusal(lambda: done(full, ("put", "p", 1, "x", "x"))), (NoGrammar, "long", "p"))
        # What does not fit goes ahead of what makes no grammar; the stuff is looked at last of all.
        self.assertEqual(refusal(lambda: done(full, ("put", "p", 8, "x", "x"))), (NoDeed, "put"))
        self.assertEqual(refusal(lambda: done(full, ("put", "p", 1, "x", "y"))), (NoGrammar, "long", "p"))
        self.assertEqual(refusal(lambda: done(full, ("put", "q", 1, "x", "y"))), (NoDeed, "put"))
        wide = grammar_of("a: p b x x x x | q\n b: r x x x")
        self.assertEqual(refusal(lambda: done(wide, ("unfold", "p", 1))), (NoGrammar, "long", "p"))
        begun = grammar_of("a: p x\n b: q x", begin="b")
        self.assertEqual(refusal(lambda: done(begun, ("norule", "b"))), (NoGrammar, "begin", "b"))
        self.assertEqual(done(begun, ("norule", "a"))[0].begin(), "b")


def some_deed(grammar, chance):
    """A deed by chance, which mostly can be done."""
    labels, rules, kinds = grammar.labels(), [name for name, _ in grammar.rules()], [one[0] for one in grammar.kinds()]
    label, name, kind = chance.choice(labels), chance.choice(rules), chance.choice(kinds)
    row = grammar.row_of(label)
    fresh = "n" + "".join(chance.choice("fghijkl") for _ in range(4))
    at = chance.randint(1, max(1, len(row)))
    order = list(range(1, len(row) + 1))
    chance.shuffle(order)
    symbol = chance.choice([one for one in kinds if one != "gap"] + rules)
    stuff = {one[0]: least_spelled(one[1]) for one in grammar.kinds()}.get(symbol)
    if stuff is None:
        shapes = sorted(shapes_up_to(grammar, 3, symbol))
        shape = chance.choice(shapes) if shapes else ()
        stuff = (shape, some_words(grammar, shape, chance, symbol) if shape else ())
    return chance.choice([
        ("call", chance.choice(rules + kinds), fresh), ("label", label, fresh),
                          ("add", name, chance.randint(0, 2), fresh, (symbol,)), ("drop", label),
        ("rule", chance.randint(0, len(rules)), fresh, [(fresh, (symbol,))]), ("norule", name),
                          ("word", 0, fresh, word("zz"), False), ("noword", kind),
        ("kind", kind, chance.choice([signs("x"), more(signs("xy"))]), False), ("begin", name),
                          ("turn", label, tuple(order)), ("put", label, at, symbol, stuff),
        ("take", label, at), ("fold", label, at, chance.randint(at + 1, max(at + 1, len(row) + 1)), fresh, fresh),
                          ("unfold", label, at),
        ("bar", label, at, chance.choice(labels)), ("nobar",) + (grammar.bars()[0] if grammar.bars() else ("z", 1,
            "z"))])


class Steps(unittest.TestCase):
    def is_led(self, grammar, new, deed, tree):
        """Whether a tree is led, told straight from the words of the point."""
        if deed[0] == "begin":
            return deed[1] == grammar.begin()
        if deed[0] == "drop" and deed[1] in tree[0]:
            return False
        if deed[0] == "kind":
            pattern = [one[1] for one in new.kinds() if one[0] == deed[1]][0]
            return all(kind != deed[1] or set(text) <= set(pattern[-1][-1] if pattern[0] == "more" else pattern[1]) and (
                pattern[0] == "more" or len(text) == 1) for kind, text in tree[1])
        if deed[0] == "bar":
            return not is_barred(new, nested(new, tree[0])[0])
        return True

    def test_each_tree_is_led_but_those(self):
        chance = Random(4)
        words, trees, lost = {}, 0, 0
        grammars = [BASE, SUMS, NAMED["half"], NAMED["nullable"], NAMED["begun"], BARRED["sums"], BARRED["still"],
                    BARRED["twice"]]
        for number in range(1400):
            grammar = grammars[number % len(grammars)]
            deed = some_deed(grammar, chance)
            told = refusal(lambda: done(grammar, deed))
            if not isinstance(told[1], Step):
                continue
            new, step = told
            words[deed[0]] = words.get(deed[0], 0) + 1
            self.assertEqual((step.old(), step.new()), (grammar, new))
            self.assertIsNone(step_fault(step), deed)
            for shape in sorted(shapes_up_to(grammar, 5))[:7]:
                tree = (shape, some_words(grammar, shape, chance))
                wanted = plain_led(step, tree)
                is_led = not isinstance(wanted[1], str)
                self.assertEqual(is_led, self.is_led(grammar, new, deed, tree), deed)
                trees += is_led
                lost += not is_led
                if is_led:
                    self.assertEqual(led(step, tree, keep=True), wanted)
                    # Each label's node begins its template.
                    heads = {old: step.leads(label) for old, label in enumerate(shape)}
                    self.assertTrue(all(wanted[0][0][at] == heads[old] for at, old in wanted[1].items()))
                else:
                    with self.assertRaises(NoLead):
                        led(step, tree)
            self.check_back(step, grammar, chance)
        self.assertEqual(len(words), 17, words)
        self.assertGreater(trees, 2000)
        self.assertGreater(lost, 60)

    def check_back(self, step, grammar, chance):
        try:
            back = turned(step)
        except NoBack:
            return
        self.assertIsNone(step_fault(back))
        for shape in sorted(shapes_up_to(grammar, 5))[:3]:
            tree = (shape, some_words(grammar, shape, chance))
            wanted = plain_led(step, tree)
            if not isinstance(wanted[1], str):
                self.assertEqual(led(back, wanted[0]), tree)


class Turns(unittest.TestCase):
    def test_rows_of_deeds(self):
        deeds = [("call", "a", "top"[::-1]), ("label", "q", "leaf"), ("add", "pot", 0, "more", ("x", "pot")),
                 ("turn", "more", (2, 1)), ("drop", "r")]
        grammar, bridge = turn(BASE, deeds)
        self.assertEqual(len(bridge), 5)
        step = BASE
        for deed, one in zip(deeds, bridge.steps()):
            made, wanted = done(step, deed)
            self.assertEqual(one, wanted)
            step = made
        self.assertEqual(grammar, step)
        self.assertEqual(grammar.rules()[0], ("pot", [("more", ("pot", "x")), ("p", ("b", "x", "pot")),
                                                      ("leaf", ("x",))]))
        self.assertEqual([bridge.leads(label) for label in "pqrs"], ["p", "leaf", None, "s"])
        self.assertEqual([bridge.straight(label) for label in "pqrs"], [True, True, False, True])
        self.assertEqual([bridge.leads_name(name) for name in ("a", "b", "x")], ["pot", "b", "x"])
        self.assertEqual(led(bridge, (("q",), (("x", "x"),))), (("leaf",), (("x", "x"),)))

    def test_none_at_all(self):
        self.assertEqual(turn(BASE, []), (BASE, Bridge()))

    def test_not_done(self):
        for deeds, number, cause in (
                ([("drop", "z")], 0, (NoDeed, "drop")), ([("drop", "q"), ("drop", "q")], 1, (NoDeed, "drop")),
                                     ([("drop", "s")], 0, (NoGrammar, "bare", "b")),
                ([("label", "q", "z"), ("add", "a", 0, "q", ()), ("call", "x", "y"), ("drop", "zz")], 2,
                 (NoGrammar, "twice", "y")),
                ([("drop", "q"), ("drop", "p"), ("drop", "r")], 2, (NoGrammar, "bare", "a"))):
            held = copy.deepcopy(deeds)
            with self.assertRaises(NotDone) as caught:
                turn(BASE, deeds)
            self.assertEqual(caught.exception.number, number)
            refused = caught.exception.__cause__
            self.assertEqual((type(refused),) + tuple(refused.__dict__.values()), cause)
            self.assertEqual(deeds, held)
        self.assertEqual(BASE, Grammar(KINDS, RULES, bars=BARS))
