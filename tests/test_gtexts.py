"""Points 39 to 41: grammars and patterns written and read."""

import unittest
from random import Random

from tests.brute import EMPTY, LANGUAGE, again, either, maybe, more, signs, some_patterns, then, word
from tests.brute_grammars import BARRED, KINDS, NAMED, PATTERNS, grammar_of, some_grammars
from tests.brute_texts import first_wrong, keep_beginnings
from tongueyard.errors import NoGrammar, NoText
from tongueyard.grammars import Grammar
from tongueyard.gtexts import META, read_grammar, read_pattern, show_grammar, show_pattern
from tongueyard.patterns import SIGNS, is_pattern

SUM_RULES = [("sum", [("one", ("term",)), ("both", ("sum", "arrow", "term"))]), ("term", [("leaf", ("id",)), ("none", ())])]
SAMPLES = list(NAMED.values()) + list(BARRED.values()) + some_grammars(5, 30, True) + [
    Grammar(LANGUAGE, SUM_RULES), Grammar(LANGUAGE, SUM_RULES, begin="term", bars=(("both", 3, "leaf"), ("one", 1, "none")))]
ALL_PATTERNS = PATTERNS + some_patterns(8, 300, "ab\n]\\\"", 5)

SMALL_TEXT = "word num [0-9]+; skip a \"x\\\"\";#r\nrule s: p: num s | q:; top s; bar p 2 q;"
TEXTS = [
    SMALL_TEXT,
    " \n#a;b [\n word\nw ( ) (\"ab\" | [\\]\\n\\\\n] ? )*;",
    "rule words:a:b|c : words;bar a1c;top\nbars ;",
    "word topp[ab]\"cd\"(())((\"e\"));skip\n#\n q[x]|[y]\n|\n[z] ;#",
    "rule r: wor: war | wordsale: toprules ;top#t\nwo;",
    "skip s [\\\\\\]\\n\"#;]\"]#\\\\\"+*;;"[:-1],
    "",
    "#",
]
PATTERN_TEXTS = ["[ab]", " \"ab\\\"\" [c]* | ( [d]\n() )+#", "((\"a\") [b])? | ([c] | [d]) [e]", "()"]
TRIED = "\n #\\\"[]()*+?|:;w1n7b\t"


def refused_at(call, text):
    """The sign at which a text is refused, None where it is not, whatever grammar comes of it."""
    try:
        call(text)
    except NoText as refusal:
        return refusal.at
    except NoGrammar:
        return None
    return None


def no_grammar(text):
    try:
        read_grammar(text)
    except NoGrammar as refusal:
        return refusal.what, refusal.name
    return None


class Shown(unittest.TestCase):
    def test_patterns(self):
        for pattern, text in (
                (signs("abc"), "[abc]"), (signs("\n\\]"), "[\\n\\\\\\]]"), (signs("\"[n"), "[\"[n]"),
                (EMPTY, "()"), (then(signs("ab"), signs("c")), "[ab] [c]"), (word("abc"), "\"abc\""),
                (word("a\"\\\n]"), "\"a\\\"\\\\\\n]\""), (either(signs("a"), signs("b")), "[a] | [b]"),
                (again(signs("a")), "[a]*"), (more(signs("a")), "[a]+"), (maybe(signs("a")), "[a]?"),
                (again(word("ab")), "\"ab\"*"), (more(maybe(EMPTY)), "()?+"), (again(then(EMPTY, signs("a"))), "(() [a])*"),
                (again(either(signs("a"), EMPTY)), "([a] | ())*"), (then(word("ab"), signs("c")), "\"ab\" [c]"),
                (then(then(signs("ab"), signs("c")), signs("d")), "([ab] [c]) [d]"),
                (then(signs("ab"), signs("c"), signs("d")), "[ab] \"cd\""),
                (then(signs("c"), signs("d"), signs("ab")), "[c] [d] [ab]"),
                (("then", word("ab"), word("cd")), "\"ab\" \"cd\""),
                (then(either(signs("a"), signs("b")), either(word("ab"), EMPTY)), "([a] | [b]) (\"ab\" | ())"),
                (("or", either(signs("a"), signs("b")), signs("c")), "([a] | [b]) | [c]"),
                (either(signs("a"), signs("b"), signs("c")), "[a] | [b] | [c]"),
                (either(then(signs("ab"), EMPTY), word("ab")), "[ab] () | \"ab\""),
                (("or", then(signs("ab"), EMPTY), signs("c")), "[ab] () | [c]")):
            self.assertEqual(show_pattern(pattern), text)
            self.assertEqual(read_pattern(text), pattern)

    def test_grammars(self):
        grammar = Grammar([("num", more(signs("01")), False), ("gap", signs("\n "), True)],
                          [("sum", [("one", ("term",)), ("both", ("sum", "term"))]),
                           ("term", [("nil", ()), ("leaf", ("num",)), ("end", ())])])
        rows = ["word num [01]+;", "skip gap [\\n ];", "rule sum: one: term | both: sum term;",
                "rule term: nil: | leaf: num | end:;"]
        self.assertEqual(show_grammar(grammar), "".join(row + "\n" for row in rows))
        barred = Grammar(grammar.kinds(), grammar.rules(), begin="term", bars=(("both", 2, "nil"), ("both", 1, "both")))
        rows += ["top term;", "bar both 2 nil;", "bar both 1 both;"]
        self.assertEqual(show_grammar(barred), "".join(row + "\n" for row in rows))
        self.assertEqual(show_grammar(Grammar(grammar.kinds(), grammar.rules(), begin="sum")), show_grammar(grammar))

    def test_there_and_back(self):
        for grammar in SAMPLES:
            told = read_grammar(show_grammar(grammar))[0]
            self.assertEqual(told, grammar)
            self.assertEqual(show_grammar(told), show_grammar(grammar))

    def test_patterns_there_and_back(self):
        for pattern in ALL_PATTERNS:
            self.assertEqual(read_pattern(show_pattern(pattern)), pattern)
            for text in ("({})", " (\n({} )#)\n )", "#\n{}#"):
                self.assertEqual(read_pattern(text.format(show_pattern(pattern))), pattern)
            longer = then(pattern, signs("x"))
            kinds = [("x", longer if is_pattern(longer) else pattern, False)]
            grammar = Grammar(kinds, [("a", [("p", ("x",))])])
            self.assertEqual(read_grammar(show_grammar(grammar))[0].kinds(), kinds)

    def test_twelve_tuples(self):
        for pattern in (word("abcdefghijkl"), *[self.marked(mark, 12) for mark in ("again", "more", "maybe")]):
            self.assertTrue(is_pattern(pattern))
            self.assertEqual(read_pattern(show_pattern(pattern)), pattern)

    def marked(self, mark, deep):
        return signs("a") if deep == 1 else (mark, self.marked(mark, deep - 1))

    def test_no_brackets_more_than_need_be(self):
        for pattern in ALL_PATTERNS:
            text = show_pattern(pattern)
            for at in range(len(text)):
                for behind in range(at + 2, len(text)):
                    if text[at] == "(" and text[behind] == ")" and text[at + 1:behind].strip():
                        fewer = text[:at] + text[at + 1:behind] + text[behind + 1:]
                        if refused_at(read_pattern, fewer) is None:
                            self.assertNotEqual(read_pattern(fewer), pattern)


class Read(unittest.TestCase):
    def test_more_than_is_written(self):
        wanted = Grammar([("x", either(signs("ab"), word("cd")), False), ("y", signs("c"), True)],
                         [("a", [("p", ("x", "b")), ("q", ())]), ("b", [("r", ("x",))])], begin="b", bars=(("p", 2, "r"),))
        for text in ("word x [ba]|\"cd\";skip y\"c\";rule a:p:x b|q:;rule b:r:x;top b;bar p 2 r;",
                     "top b;bar p2r;rule a:p:x#\nb|q:;rule b:r:x;word x(([ab])|(\"cd\"));skip y[c];",
                     "#word z;\nrule\na # (\n: p :\nx\n b | q : ; word x [ab] # ;\n| \"cd\" ;\n\n bar p 2 r ;\n"
                     "rule b : r : x ; skip y ( \"c\" ) ; top\tb;#".replace("\t", " ")):
            self.assertEqual(read_grammar(text)[0], wanted, text)

    def test_rows_in_any_order(self):
        chance = Random(3)
        for grammar in SAMPLES:
            rows = show_grammar(grammar).splitlines()
            for _ in range(5):
                left = [[row for row in rows if row[:4] in ("word", "skip")], [row for row in rows if row[:4] == "rule"],
                        [row for row in rows if row[:4] == "top "], [row for row in rows if row[:4] == "bar "]]
                mixed = []
                while any(left):
                    mixed.append(chance.choice([one for one in left if one]).pop(0))
                self.assertEqual(read_grammar("".join(mixed))[0], grammar)
                self.assertEqual(sorted(mixed), sorted(rows))
            # Kinds and rules stand as they stand in the text.
            kinds, rules = rows[:len(grammar.kinds())], rows[len(grammar.kinds()):][:len(grammar.rules())]
            rest = [row for row in rows if row.startswith("bar ")] + ["top " + grammar.begin() + ";"]
            turned = read_grammar("".join(rest + rules[::-1] + kinds))[0]
            self.assertEqual((turned.rules(), turned.begin()), (grammar.rules()[::-1], grammar.begin()))

    def test_gaps_and_remarks_anywhere(self):
        for grammar in SAMPLES[:12]:
            text = show_grammar(grammar)
            for gap in ("\n", "  ", "#", "# [;\n#\n"):
                wide = self.widened(text, gap if gap != "#" else "#a \"%\n".replace("%", "["))
                self.assertEqual(read_grammar(wide)[0], grammar)

    def widened(self, text, gap):
        """A text with a gap put in at each blank, ahead of and behind each sign that stands alone."""
        told, closed = [], None
        for at, sign in enumerate(text):
            if closed is None and sign in "[\"":
                closed = "]" if sign == "[" else sign
                told += [gap, sign]
            elif closed is not None:
                told.append(sign)
                ahead = text[:at]
                if sign == closed and (len(ahead) - len(ahead.rstrip("\\"))) % 2 == 0:
                    closed = None
                    told.append(gap)
            elif sign in "()*+?|:;":
                told += [gap, sign, gap]
            else:
                told.append(gap + sign if sign in "\n " else sign)
        return "".join(told)

    def test_places(self):
        for text in [show_grammar(grammar) for grammar in SAMPLES] + [SMALL_TEXT.replace("s: p", "s#\n: p")]:
            grammar, places = read_grammar(text)
            wanted = ["kind " + name for name, _, _ in grammar.kinds()] + ["rule " + name for name, _ in grammar.rules()]
            for label in grammar.labels():
                wanted += [f"label {label}"] + [f"label {label} {at + 1}" for at in range(len(grammar.row_of(label)))]
            self.assertEqual(sorted(places), sorted(wanted))
            for key, (start, behind) in places.items():
                words = key.split()
                name = words[1] if len(words) == 2 else grammar.row_of(words[1])[int(words[2]) - 1]
                self.assertEqual(text[start:behind], name)
            starts = [places[key][0] for key in wanted]
            self.assertEqual(len(set(starts)), len(starts))
            for label in grammar.labels():
                self.assertLess(places["rule " + grammar.rule_of(label)][0], places["label " + label][0])

    def test_places_by_hand(self):
        self.assertEqual(read_grammar("word x[x];rule a:a:x x|x:;")[1],
                         {"kind x": (5, 6), "rule a": (15, 16), "label a": (17, 18), "label a 1": (19, 20),
                          "label a 2": (21, 22), "label x": (23, 24)})

    def test_thousands_of_signs(self):
        blanks = "#" + "\"[ " * 900 + "\n" + " \n" * 900
        grammar = SAMPLES[0]
        text = show_grammar(grammar).replace(" ", blanks, 1) + blanks
        self.assertGreater(len(text), 8000)
        self.assertEqual(read_grammar(text)[0], grammar)
        self.assertEqual(refused_at(read_grammar, text + "x"), len(text))
        pattern = read_pattern("(" * 40 + "[a]" + ")*" * 6 + ")" * 34)
        self.assertEqual(show_pattern(pattern), "[a]******")
        self.assertEqual(refused_at(read_pattern, "[a] " * 2000 + ")"), 8000)

    def test_strange_signs_in_texts_of_patterns(self):
        every = "".join("\\" + sign if sign in "]\\" else "\\n" if sign == "\n" else sign for sign in SIGNS)
        self.assertEqual(read_pattern("[" + every + "]"), signs(SIGNS))
        self.assertEqual(read_pattern("[" + every[::-1].replace("n\\", "\\n").replace("]\\", "\\]") + "]"), signs(SIGNS))
        for sign in "\t\r%\x7f\u00e4":
            self.assertEqual(refused_at(read_pattern, f"[a{sign}]"), 2)
            self.assertEqual(refused_at(read_pattern, f"\"a{sign}\""), 2)

    def test_what_is_handed_out_is_the_askers_own(self):
        first, second = read_grammar(SMALL_TEXT), read_grammar(SMALL_TEXT)
        self.assertEqual(first, second)
        first[1].clear()
        first[0].kinds().clear()
        self.assertEqual(read_grammar(SMALL_TEXT), second)
        self.assertIs(type(first), tuple)


class Refused(unittest.TestCase):
    def check(self, form, call, text):
        self.assertEqual(refused_at(call, text), first_wrong(form, text), repr(text))

    def test_each_sign_otherwise_left_out_put_in_and_cut_off(self):
        for form, call, texts in (("grammar", read_grammar, TEXTS), ("pattern", read_pattern, PATTERN_TEXTS)):
            for text in texts:
                keep_beginnings(form, text)
                self.check(form, call, text)
                for at in range(len(text) + 1):
                    self.check(form, call, text[:at])
                    self.check(form, call, text[:at] + text[at + 1:])
                    for sign in TRIED:
                        self.check(form, call, text[:at] + sign + text[at + 1:])
                        self.check(form, call, text[:at] + sign + text[at:])

    def test_the_texts_are_of_the_form(self):
        self.assertTrue(all(first_wrong("grammar", text) is None for text in TEXTS))
        self.assertTrue(all(first_wrong("pattern", text) is None for text in PATTERN_TEXTS))

    def test_by_hand(self):
        for text, at in (("w", 1), ("word", 4), ("wordnum", 4), ("word num", 8), ("word num;", 8), ("word word [a];", 9),
                         ("word wor", 8), ("word word", 9), ("word abcdefghi", 13), ("word Num", 5), ("word a1", 6),
                         ("word a [];", 8), ("word a [aa];", 9), ("word a [a\n];", 9), ("word a [\\a];", 9),
                         ("word a [a\\", 10), ("word a \"\";", 8), ("word a \"\\]\";", 9), ("word a [a]", 10),
                         ("word a [a] b", 11), ("word a [a]);", 10), ("word a ([a];", 11), ("word a | [a];", 7),
                         ("word a *;", 7), ("rule a: ;", 8), ("rule a:;", 7), ("rule a: b;", 9), ("rule a: b: c: d;", 12),
                         ("rule a: b: c |;", 14), ("rule a: b: top;", 14), ("rule a: b: to;top a;top a;", 20),
                         ("top a; top b;", 7), ("top a; top", 7), ("bar a 0 b;", 6), ("bar a 7 b;", 6), ("bar a 12 b;", 7),
                         ("bar a b 1;", 6), ("bara 1 b;", 3), ("word a [a];;", 11), ("x", 0), (";", 0), ("\t", 0),
                         ("word a [a]; #", None), ("rule a:b:c#", 11), ("word#", 5), ("word#\n", 6), ("bar a1b;", None)):
            self.assertEqual(refused_at(read_grammar, text), at, text)
            self.assertEqual(first_wrong("grammar", text), at, text)

    def test_patterns_by_hand(self):
        for text, at in (("", 0), (" ", 1), ("#", 1), ("[a];", 3), ("[a])", 3), ("([a]", 4), ("[a] |", 5), ("| [a]", 0),
                         ("(|)", 1), ("()()", None), ("( )", None), ("[\\n\\n]", 4), ("[\\]\\\\\\n\\", 7), ("a", 0)):
            self.assertEqual(refused_at(read_pattern, text), at, text)
            self.assertEqual(first_wrong("pattern", text), at, text)

    def test_all_escapes_told(self):
        # With all three told, a \ more can't be gone on with; with two told it can, by the third one.
        self.assertEqual(refused_at(read_pattern, "[\\n\\\\\\]\\]"), 7)
        self.assertEqual(refused_at(read_pattern, "[\\n\\\\\\n]"), 6)
        self.assertEqual(refused_at(read_pattern, "[n\\n]"), None)

    def test_names_side_by_side(self):
        for text, at in (("rule a: b: c d;", None), ("rule a: b: c#\nd;", None), ("rule a: b: c\nd;", None)):
            self.assertEqual(refused_at(read_grammar, text), at)
        self.assertEqual(read_grammar("word c[a];rule d:b:c#x\nd|e:c;")[0].row_of("b"), ("c", "d"))
        self.assertEqual(no_grammar("word c[a];rule d:b:cd;"), ("symbol", "cd"))


class NoGrammars(unittest.TestCase):
    def test_no_rows(self):
        for text in ("", " ", "#", "word a [a];", "rule a: b:;"):
            self.assertEqual(no_grammar(text), ("many", None))

    def test_deep(self):
        rule = "rule a: b:;"
        for pattern in ("\"abcdefghijkl\"", "[a]" + "*" * 11, "[a]" * 12, "|".join(["[a]"] * 12), "(((((([a]))))))" + "+" * 11):
            deeper = pattern + "[b]" if "*" not in pattern and "|" not in pattern and "+" not in pattern else pattern + "?"
            if "|" in pattern:
                deeper = pattern + "|[b]"
            self.assertNotEqual(no_grammar(f"word x {pattern};{rule}"), ("deep", "x"))
            self.assertEqual(no_grammar(f"word x {deeper};{rule}"), ("deep", "x"), deeper)
        self.assertEqual(no_grammar(f"word x \"abcdefghijklm\";{rule}"), ("deep", "x"))

    def test_deep_goes_ahead_of_all_else(self):
        deep = "[a]" * 13
        self.assertEqual(no_grammar(f"word x [a]*;word y {deep};word y {deep}*;skip z {deep};"), ("deep", "y"))
        self.assertEqual(no_grammar(f"word y {deep};" * 20), ("deep", "y"))
        self.assertEqual(no_grammar("word x [a]*;word y " + "[a]" * 2000 + ";"), ("deep", "y"))
        self.assertEqual(no_grammar("word y [a]" + "+" * 7000 + ";"), ("deep", "y"))

    def test_then_as_grammars_are_refused(self):
        word_row, rule = "word x [x];", "rule a: b: x;"
        for text, wanted in ((word_row * 15 + rule, ("many", None)), (word_row + rule * 41, ("many", None)),
                             (word_row * 2 + rule, ("twice", "x")), ("word x [x]*;" + rule, ("empty", "x")),
                             (word_row + "rule x: b:;", ("twice", "x")), (word_row + rule * 2, ("twice", "a")),
                             (word_row + "rule a: b: | b:;", ("again", "b")),
                             (word_row + "rule a: b: x x x x x x x;", ("long", "b")),
                             (word_row + "rule a: b: c;", ("symbol", "c")), ("skip x [x];" + rule, ("skipped", "x")),
                             (word_row + rule + "top b;", ("begin", "b")), (word_row + rule + "bar b 1 b;", ("bar", "b")),
                             ("bar b 1 b;" + word_row + rule + "top a;", ("bar", "b"))):
            self.assertEqual(no_grammar(text), wanted)

    def test_no_text_goes_ahead(self):
        self.assertEqual(refused_at(read_grammar, "word x " + "[a]" * 13 + ";%"), 47)
        self.assertIsNone(no_grammar(META))

    def test_the_kinds_of_sums(self):
        self.assertEqual(read_grammar("".join(row + ";" for row in (
            "word num [0123456789]+", "word plus [+]", "skip gap [ ]", "rule a: b:")))[0].kinds(), KINDS)
        self.assertEqual(read_grammar(show_grammar(grammar_of("a: p x")))[0], grammar_of("a: p x"))
