"""Points 167 and 168: tallies written as texts and read again."""

import unittest
from random import Random

from tests.brute_grammars import NAMED, SUMS, grammar_of
from tests.brute_texts import MANY_PARTS, first_wrong, keep_beginnings
from tests.brute_worths import some_tallies
from tests.test_tallies import MARKS, SUMS_OF
from tongueyard.errors import NoTally, NoText
from tongueyard.tallies import completed, tally_of
from tongueyard.tallytexts import read_tally, show_tally, sums_read

TALLY = tally_of(SUMS, MARKS, SUMS_OF)
SMALL = grammar_of("a: p b x | q\n b: r y")
SMALL_MARKS = [("n", "up", "number", ("a", "b")), ("t", "down", "text", ("b",)), ("s", "up", "names", ("a",))]
SMALL_SUMS = [
    ("p", 0, "n", ("choose", ("same", ("at", 1, "n"), ("number", 0)), ("less", ("number", 1000000000),
        ("many", ("nobody",))), ("most", ("number", 7), ("digits", ("text", "08"))))),
    ("p", 1, "t", ("join", ("word", 2), ("text", "\"\\\n"))), ("r", 0, "n",
        ("plus", ("times", ("long", ("at", 0, "t")), ("number", 2)), ("has", ("nobody",), ("text", "")))),
    ("p", 0, "s", ("off", ("either", ("just", ("shown", ("at", 1, "n"))), ("nobody",)), ("just", ("text", "x")))),
              ("q", 0, "n", ("number", 0)), ("q", 0, "s", ("nobody",))]
SMALL_TALLY = tally_of(SMALL, SMALL_MARKS, SMALL_SUMS)
SMALL_TEXT = """up n number: a b;
down t text: b;
up s names: a;
p.0.n = choose(same(n.1, 0), less(1000000000, many(nobody())), most(7, digits("08")));
p.0.s = off(either(just(shown(n.1)), nobody()), just("x"));
p.1.t = join(word(2), "\\"\\\\\\n");
q.0.n = 0;
q.0.s = nobody();
r.0.n = plus(times(long(t.0), 2), has(nobody(), ""));
"""


def refusal(call):
    try:
        return call()
    except NoText as found:
        return NoText, found.at
    except NoTally as found:
        return NoTally, found.what, found.row


def spread(text, chance):
    """The text with blanks, line feeds and remarks put in wherever they may stand."""
    told, is_quoted, is_escaped = "", False, False
    for at, sign in enumerate(text):
        glued = at > 0 and (sign.isalnum() and text[at - 1].isalnum())
        if not is_quoted and not glued:
            told += chance.choice(["", "", " ", "\n", " #q\"(;\n", "#\n"])
        told += sign
        if is_escaped:
            is_escaped = False
        elif sign == "\"":
            is_quoted = not is_quoted
        elif sign == "\\" and is_quoted:
            is_escaped = True
    return told + chance.choice(["", "#end", " \n"])


class Shown(unittest.TestCase):
    def test_by_hand(self):
        self.assertEqual(show_tally(SMALL_TALLY), SMALL_TEXT)
        self.assertEqual(show_tally(((), ())), "")
        self.assertEqual(read_tally(SMALL, SMALL_TEXT), SMALL_TALLY)
        self.assertEqual(sums_read(SMALL_TEXT), (list(SMALL_TALLY[0]), list(SMALL_TALLY[1])))
        self.assertEqual(sums_read(""), ([], []))
        self.assertEqual(sums_read(" # nothing"), ([], []))
        self.assertEqual(read_tally(SMALL, ""), ((), ()))
        told = sums_read(SMALL_TEXT)
        self.assertEqual((type(told), type(told[0]), type(told[1])), (tuple, list, list))

    def test_there_and_back(self):
        chance = Random(4)
        tallies = [(SUMS, TALLY), (SMALL, SMALL_TALLY)]
        for name in ("half", "ring", "begun", "apart", "nullable"):
            tallies += [(NAMED[name], tally) for tally in some_tallies(NAMED[name], 5, 8)]
        for grammar, tally in tallies:
            text = show_tally(tally)
            self.assertEqual(read_tally(grammar, text), tally)
            self.assertEqual(read_tally(grammar, text, fill=True), tally)
            for _ in range(3):
                self.assertEqual(read_tally(grammar, spread(text, chance)), tally)
            rows = text.split(";\n")[:-1]
            marks = [row for row in rows if row.split(" ")[0] in ("up", "down") and " = " not in row]
            sums = [row for row in rows if row not in marks]
            chance.shuffle(sums)
            mixed = sums[:2] + marks + sums[2:]
            self.assertEqual(read_tally(grammar, "".join(row + ";" for row in mixed)), tally)

    def test_names_that_are_words_of_the_form(self):
        grammar = grammar_of("number: up x text | down x\n text: names y")
        marks = [("plus", "up", "number", ("number", "text")), ("text", "down", "names", ("text",)),
                 ("nobody", "up", "text", ("number",)), ("up", "up", "number", ("text",))]
        sums = [("up", 0, "plus", ("plus", ("at", 2, "plus"), ("at", 2, "up"))), ("up", 2, "text", ("nobody",)),
                ("up", 0, "nobody", ("word", 1)), ("down", 0, "plus", ("number", 1)),
                ("down", 0, "nobody", ("text", "up")), ("names", 0, "plus", ("many", ("at", 0, "text"))),
                ("names", 0, "up", ("number", 3))]
        tally = tally_of(grammar, marks, sums)
        text = show_tally(tally)
        self.assertIn("up.0.plus = plus(plus.2, up.2);\n", text)
        self.assertIn("up plus number: number text;\n", text)
        self.assertIn("down.0.nobody = \"up\";\n", text)
        self.assertEqual(read_tally(grammar, text), tally)
        self.assertEqual(read_tally(grammar, text.replace("up.0", "up . 0").replace("up plus", "up#\nplus")), tally)


class Read(unittest.TestCase):
    def test_no_tally(self):
        for text, wanted in (
                ("up n number: z;", ("mark", 0)), ("up n number: a; up n text: b;", ("mark", 1)),
                             ("up n number: a a;", ("mark", 0)), ("up n number: a;", ("lacks", ("p", 0, "n"))),
                ("p.0.n = 1;", ("sum", 0)), ("up n number: b; r.0.n = 1; r.0.n = 1;", ("sum", 1)),
                             ("up n number: b; r.0.n = \"a\";", ("sum", 0)),
                             ("up n number: b; r.0.n = word(2);", ("sum", 0)),
                ("up n number: b; r.0.n = has(1, 2);", ("sum", 0)), ("r.0.n = 1; up n number: b; p.1.n = 1;",
                    ("sum", 1)), ("up n number: b; r.0.n = n.0;", ("sum", 0)),
                ("up n number: b; r.0.n = " + "plus(1, " * 5 + "1" + ")" * 5 + "; r.0.n = 2;", ("sum", 1)),
                ("up n number: b; r.0.n = plus(plus(plus(1, 1), plus(1, 1)), plus(plus(plus(1, 1), plus(1, 1)), plus(1, plus(1, 1))));", ("sum", 0))):
            self.assertEqual(refusal(lambda: read_tally(SMALL, text)), (NoTally,) + wanted, text)

    def test_figures(self):
        for number in (0, 7, 10, 1234567890 // 10, 908070605, 999999999, 1000000000):
            self.assertEqual(sums_read(f"p.0.n = {number};"), ([], [("p", 0, "n", ("number", number))]))

    def test_fill(self):
        text = "up n number: a b; r.0.n = 4;"
        self.assertEqual(refusal(lambda: read_tally(SMALL, text)), (NoTally, "lacks", ("p", 0, "n")))
        self.assertEqual(refusal(lambda: read_tally(SMALL, text, fill=False)), (NoTally, "lacks", ("p", 0, "n")))
        self.assertEqual(read_tally(SMALL, text, fill=True), completed(SMALL, [("n", "up", "number", ("a", "b"))],
            [("r", 0, "n", ("number", 4))]))
        self.assertEqual(refusal(lambda: read_tally(SMALL, "down d text: b;", fill=True)),
                         (NoTally, "lacks", ("p", 1, "d")))
        self.assertEqual(refusal(lambda: read_tally(SMALL, "down d text: b; p.2.d = 1;", fill=True)),
                         (NoTally, "sum", 0))
        # No text goes ahead of no tally.
        self.assertEqual(refusal(lambda: read_tally(SMALL, "up n number: z; p", fill=True)), (NoText, 17))
        self.assertEqual(refusal(lambda: read_tally(SMALL, "up n number: z; p")), (NoText, 17))


class NoTexts(unittest.TestCase):
    def check(self, text):
        wrong = first_wrong("tally", text)
        told = refusal(lambda: sums_read(text))
        self.assertEqual(told if told[0] is NoText else None, (NoText, wrong) if wrong is not None else None, text)
        if wrong is not None:
            self.assertEqual(refusal(lambda: read_tally(SMALL, text)), (NoText, wrong))
        return wrong

    def test_each_sign_otherwise_out_and_put_in(self):
        found = set()
        for text in ("up n number: a b;down t text:c ;", "p.0.n=plus(1,n.2);# e\n",
                     "p.6.q = choose(\"a\\n\", word(6), nobody( ));", "up.1.a=has(just(x.0),\"\\\"\");",
                     "down long names: w;w.0.s=shown(10);"):
            keep_beginnings("tally", text)
            for at in range(len(text) + 1):
                found.add(self.check(text[:at]))
                self.check(text[:at] + text[at + 1:])
                for sign in "ap017.,;:=()\"\\ \n#Z":
                    self.check(text[:at] + sign + text[at:])
                    self.check(text[:at] + sign + text[at + 1:])
        self.assertGreater(len(found), 30)

    def test_bounds(self):
        def row(expression):
            return "p.0.n = " + expression + ";"
        start = len("p.0.n = ")
        for expression, at in (
                ("1000000000", None), ("1000000001", 9), ("2000000000", 9), ("10000000000", 10), ("999999999", None),
                               ("9999999999", 9), ("00", 1), ("01", 1), ("0", None), ("1 0", 2), ("-1", 0), ("+1", 0),
                               ("1.2", 1),
                ("\"" + "a" * 60 + "\"", None), ("\"" + "a" * 61 + "\"", 61), ("\"" + "a" * 60 + "\\n\"", 61),
                               ("\"" + "\\n" * 60 + "\"", None), ("\"" + "\\n" * 61 + "\"", 121), ("\"\t\"", 1),
                               ("\"\n\"", 1), ("\"\\t\"", 2),
                ("n.7", 2), ("n.6", None), ("n.0", None), ("n.00", 3), ("word(0)", 5), ("word(1)", None),
                               ("word(6)", None), ("word(7)", 5), ("word(11)", 6), ("word.1", 4), ("word 1", 5),
                               ("word()", 5), ("words.1", None), ("words(1)", 5),
                ("at(1, n)", 2), ("number(1)", 6), ("text(\"a\")", 4), ("skip.1", 4), ("rule(1)", 4), ("top", 3),
                               ("plus", 4), ("plus.1", None), ("plus(1)", 6), ("plus(1, 2)", None),
                               ("plus(1, 2, 3)", 9), ("plus()", 5), ("nobody", 6), ("nobody(1)", 7),
                ("nobody()", None), ("nobody.1", None), ("just(1, 2)", 6), ("choose(1, 2)", 11),
                               ("choose(1, 2, 3)", None), ("choose(1, 2, 3, 4)", 14), ("longest.1", None),
                               ("toolonger.1", 8), ("plus(1 2)", 7), ("plus(1,, 2)", 7), ("(1)", 0), ("", 0)):
            self.assertEqual(self.check(row(expression)), None if at is None else start + at, expression)

    def test_depths(self):
        for word, many in MANY_PARTS.items():
            inner = ", ".join(["1"] * many)
            for depth in range(8):
                text = "p.0.n = " + "long(" * depth + f"{word}({inner})" + ")" * depth + ";"
                wrong = self.check(text)
                if depth < 5 or depth == 5 and many == 0:
                    self.assertIsNone(wrong)
                elif depth == 5:
                    self.assertEqual(wrong, 8 + 5 * 5 + len(word))
                else:
                    self.assertEqual(wrong, 8 + 5 * 5 + len("long"))
        for leaf in ("n.1", "7", "\"a\"", "word(1)", "nobody()", "long.2"):
            self.assertIsNone(self.check("p.0.n = " + "long(" * 5 + leaf + ")" * 5 + ";"))
            self.assertIsNotNone(self.check("p.0.n = " + "long(" * 6 + leaf + ")" * 6 + ";"))

    def test_rows(self):
        for text, at in (("up", 2), ("up;", 2), ("up n", 4), ("up n;", 4), ("up n numbers: a;", 11),
                         ("up n num: a;", 8), ("up n nx: a;", 6), ("up n Number: a;", 5), ("up n number a;", 12),
                         ("up n number:;", 12), ("up n number: a, b;", 14),
                         ("upn number: a;", 4), ("up nnumber: a;", 10), ("up n number: a b c;", None),
                         ("up n names:a;", None), ("down n text : a ;", None), ("up.0.n = 1;", None),
                         ("up .0.n = 1;", None), ("down.7", 5), ("side n number: a;", 5),
                         ("p.n = 1;", 2), ("p.0 = 1;", 4), ("p.0.n 1;", 6), ("p.0.n = 1", 9), ("p.0.n = 1;;", 10),
                         ("p.0.n == 1;", 7), ("p.0.word = 1;", 8), ("bar.0.n = 1;", 3), ("up word number: a;", 7),
                         ("up n number: rule;", 17),
                         ("p#\n.0.n = 1;", None), ("p.0.n = 1;#", None), ("p.0.n = 1;# x\ny", 15),
                         ("up#up\nn#\nnumber:a;", None), ("up n number: abcdefghi;", 21)):
            self.assertEqual(self.check(text), at, text)
