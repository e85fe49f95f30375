"""Points 172 to 176: the desk, each deed and question against the bench beneath."""

import unittest
from random import Random

from tests.bent import ANYTHING
from tests.brute_bench import ALPHABETS, SAMPLES
from tests.brute_documents import some_text
from tests.test_deeds import some_deed
from tests.test_tallytexts import SMALL_TEXT
from tongueyard.bench import Bench
from tongueyard.desk import Desk, desk_from, desk_of
from tongueyard.errors import NoGrammar, NoRow, NoText, Stopped, YardError
from tongueyard.grammars import Grammar
from tongueyard.gtexts import read_grammar, show_grammar
from tongueyard.orders import show_deed
from tongueyard.tallytexts import show_tally, sums_read
from tongueyard.trees import parts_of
from tongueyard.treetexts import show_tree

SUMS = "word num [0123456789]+; word plus \"+\"; skip gap [ \\n]+;\nrule sum: one: term | both: sum plus term;\nrule term: leaf: num | none:;"
TALLY = "up n number: sum term; up t text: term; up s names: sum; leaf.0.n = long(word(1)); leaf.0.t = word(1); one.0.s = just(t.1); both.0.s = either(s.1, just(t.3));"


def fields(call):
    try:
        return call()
    except YardError as found:
        return (type(found).__name__,) + tuple(found.__dict__.values())


def desk_with(*rows):
    desk = Desk()
    for row in ("grammar g " + SUMS,) + rows:
        desk.say(row)
    return desk


def asked(desk):
    """All that can be asked of a desk."""
    found = [desk.say(word) for word in ("tongues", "docs", "spared", "changed")]
    for name in desk.say("tongues").split(" "):
        found += [fields(lambda: desk.say(f"{word} {name}")) for word in ("show", "tally")]
    for name in desk.say("docs").split(" "):
        found += [fields(lambda: desk.say(f"{word} {name}")) for word in ("text", "tree", "words", "nodes", "many",
            "stop", "print", "about", "hangs")]
        found += [fields(lambda: desk.say(f"worth {name} {node} n")) for node in range(12)] + [fields(lambda: desk.say(f"print {name} 3"))]
    return found


class Deeds(unittest.TestCase):
    def test_each_one_and_each_question(self):
        desk = Desk()
        for row, told in (
                ("tongues", "none"), ("docs", "none"), ("spared", "none"), ("changed", "none"),
                          ("grammar g " + SUMS, "ok"), ("tongues", "g"), ("tally g", "none"), ("open d g 12 +3", "ok"),
                          ("still s g +", "ok"),
                ("docs", "d s"), ("changed", "s"), ("text d", "12 +3"),
                          ("tree d", "both(one(leaf(num\"12\")) plus\"+\" leaf(num\"3\"))"), ("words d", "1 2 3 4"),
                          ("nodes d", "1 2 3 4"), ("many d", "1"), ("stop d", "reads"),
                ("print d", "12+3"), ("print d 0", "12+3"), ("about d", "g 0 live"), ("about s", "g 0 still"),
                          ("hangs d", "one both leaf"), ("layout g both blank soft\nleaf", "ok"), ("print d", "12 + 3"),
                          ("print d 5", "12 +\n3"),
                ("sums g " + TALLY, "ok"), ("changed", "d s"), ("worth d 1 n", "3"), ("worth d 3 t", "\"12\""),
                          ("worth d 1 s", "\"12\" \"3\""), ("worth s 5 s", "\"\""), ("edit d 0 1 ", "ok"),
                          ("text d", "2 +3"), ("edit d 3 0 9 8", "ok"),
                ("text d", "2 +9 83"), ("stop d", "9 . plus"), ("mend d", "1"), ("stop d", "reads"),
                          ("turn g label both more\nadd term 0 pair num num", "1"), ("spared", "d"),
                          ("changed", "none"), ("about d", "g 1 live"), ("about s", "g 0 still"),
                ("lead s", "ok"), ("about s", "g 1 still"), ("tree s", "more(one(none()) plus\"+\" none())"),
                          ("nosums g", "ok"), ("undo", "ok"), ("redo", "ok"), ("tally g", "none"), ("turn g ", "2"),
                          ("close d", "ok"), ("docs", "s"), ("undo", "ok"), ("docs", "d s"),
                ("mend d", "0"), ("edit s 0 1 ?", "ok"), ("stop s", "12 . num plus")):
            self.assertEqual(desk.say(row), told, row)
        bench = Bench()
        bench.founded("g", read_grammar(SUMS)[0])
        bench.turn("g", [("label", "both", "more"), ("add", "term", 0, "pair", ("num", "num"))])
        self.assertEqual(desk.say("show g"), show_grammar(bench.grammar_of("g")))

    def test_stops(self):
        desk = desk_with("open d g 1 1", "open e g ?",
                         "grammar h word x [x]; word y [y]; rule a: p: x a x | q: y a y | r:;", "open f h xy",
                         "open k h xyx", "grammar n word x [x]; rule a: p: a x;", "open l n ", "open m n x")
        self.assertEqual([desk.say("stop " + name) for name in "defklm"],
                         ["3 . plus", "4 . num plus", "end x y", "end x y", "end none", "10 none"])
        for word in ("tree", "nodes", "many", "print", "hangs"):
            self.assertEqual(fields(lambda: desk.say(f"{word} d")), ("NoReading", 1, [".", "plus"]))

    def test_worths(self):
        desk = desk_with("open d g 1+", "open e g 1 1")
        # No reading goes ahead of rings, and these ahead of no worth.
        for row, told in (("worth e 1 n", ("NoReading", 1, [".", "plus"])), ("worth d 1 n", ("NoWorth", 1, "n")),
                          ("worth d 99 z", ("NoWorth", 99, "z"))):
            self.assertEqual(fields(lambda: desk.say(row)), told)
        desk.say("sums g up n number: term; up s names: sum; up t text: term; down d text: term; one.1.d = t.1; leaf.0.t = d.0; none.0.t = \"a\\\\\\n\\\"\"; both.3.d = \"x\";")
        self.assertEqual(fields(lambda: desk.say("worth d 1 z"))[0], "RoundWorths")
        desk.say("edit d 0 1 ")
        nodes = desk.say("nodes d").split(" ")
        found = [fields(lambda: desk.say(f"worth d {node} {name}")) for node in nodes for name in ("n", "s", "t", "d")]
        self.assertEqual(found[:4], [("NoWorth", int(nodes[0]), "n"), "none", ("NoWorth", int(nodes[0]), "t"),
                                     ("NoWorth", int(nodes[0]), "d")])
        self.assertEqual(found[-4:], ["0", ("NoWorth", int(nodes[-1]), "s"), "\"a\\\\\\n\\\"\"", "\"x\""])

    def test_questions_change_nothing(self):
        desk = desk_with("open d g 1+2", "edit d 0 0 3", "undo")
        log, first = desk.log(), asked(desk)
        self.assertEqual(asked(desk), first)
        self.assertEqual((desk.log(), len(desk)), (log, 4))
        desk.say("redo")
        self.assertEqual(desk.say("text d"), "31+2")

    def test_texts_of_all_sorts(self):
        desk = desk_with()
        for name, text in (("a", ""), ("b", " "), ("c", "  1  +  "), ("d", "1\n+\n"), ("e", "open f g 1"),
                           ("f", "\\n\"")):
            self.assertEqual(desk.say(f"open {name} g {text}"), "ok")
            self.assertEqual(desk.say(f"text {name}"), text)
        desk.say("edit a 0 0  1 ")
        self.assertEqual(desk.say("text a"), " 1 ")
        desk.say("layout g ")
        self.assertEqual(desk.say("print d"), "1+")
        desk.say("sums g ")
        self.assertEqual(desk.say("tally g"), "")
        # Of one label the last counts.
        desk.say("layout g both row row\nboth blank near")
        self.assertEqual(desk.say("print d"), "1 +")

    def test_trees_of_still_documents(self):
        desk = desk_with("still d g 1", "turn g label leaf fig\nlabel one uno")
        self.assertEqual(desk.say("tree d"), "one(leaf(num\"1\"))")
        desk.say("lead d")
        self.assertEqual(desk.say("tree d"), "uno(fig(num\"1\"))")


class Refused(unittest.TestCase):
    def check(self, desk, row, told):
        log, ahead, entries = desk.log(), asked(desk), desk.entries()
        self.assertEqual(fields(lambda: desk.say(row)), told, row)
        self.assertEqual((desk.log(), asked(desk)), (log, ahead))
        return entries

    def test_no_row(self):
        desk = desk_with("open d g 1")
        for row in ["", " ", "grammar", "grammar g", "grammar G x", "Grammar g x", "grammar word x", " undo", "undo ",
                    "undo x", "redo ", "UNDO", "tongues ", "docs d", "turn g", "turn G ", "turn g \n",
                    "turn g drop none\n", "turn g \ndrop none", "turn g drop none\n\ndrop leaf",
                    "turn g drop  none", "turn g drop", "turn g other x", "turn g call a B", "sums g", "sums", "nosums",
                    "nosums g ", "nosums g x", "layout g", "layout", "layout g both near  near",
                    "layout g both near near ", "layout g  both", "layout g both\n", "layout g \nboth",
                    "layout g Both near",
                    "layout g both near\n\nleaf", "layout g both Near", "open d g", "open d", "open d  g x",
                    "open D g x", "still s g", "close", "close d ", "close  d", "close d e", "edit d 0 0", "edit d 0",
                    "edit d 00 0 x", "edit d 0 01 x", "edit d 10000 0 x", "edit d -1 0 x", "edit d a 0 x",
                    "edit d  0 0 x",
                    "lead", "lead d ", "mend d 1", "mend", "text", "text d ", "text d e", "tree", "words D", "print d ",
                    "print d x", "print d 01", "print d 1 2", "print d  1", "worth d 1", "worth d n 1", "worth d 1 N",
                    "worth d 1 n ", "worth d 10000 n", "about", "hangs d\n", "show g ", "tally", "spared x",
                    "changed\n",
                    "stop d d", "many", "nodes\td", "word 0 x [a]", "open d\ng x", "openx d g x", "lead\nd"] + ANYTHING:
            self.check(desk, row, ("NoRow", row))

    def test_in_this_order(self):
        desk = desk_with("open d g 1", "open e g 1 1")
        self.check(desk, "grammar g word", ("NoText", 4))
        self.check(desk, "grammar g word a [a]; rule b: c: z;", ("NoGrammar", "symbol", "z"))
        self.check(desk, "grammar g word a [a]; rule b: c: a;", ("Taken", "g"))
        self.check(desk, "grammar h word a [a]; rule b: c: b | d: a;", ("Ringed", "b"))
        self.check(desk, "sums z up n", ("NoText", 4))
        self.check(desk, "sums z up n number: z;", ("NoSuch", "z"))
        self.check(desk, "sums g up n number: z;", ("NoTally", "mark", 0))
        self.check(desk, "sums g down n number: sum;", ("NoGiven", "n"))
        self.check(desk, "turn z drop none", ("NoSuch", "z"))
        self.check(desk, "turn g drop none\ndrop none", ("NotDone", 1))
        self.check(desk, "turn z drop", ("NoRow", "turn z drop"))
        self.check(desk, "layout z both near", ("NoSuch", "z"))
        self.check(desk, "layout g both near", ("NoLayout", "both"))
        self.check(desk, "layout g both near other", ("NoLayout", "both"))
        self.check(desk, "layout g leaf\nz near", ("NoLayout", "z"))
        self.check(desk, "open d z 1", ("Taken", "d"))
        self.check(desk, "open f z 1", ("NoSuch", "z"))
        self.check(desk, "still f g " + "1" * 201, ("NoRoom", 201))
        self.check(desk, "edit d 2 0 1", ("NoSpan", (2, 0)))
        self.check(desk, "edit z 2 0 1", ("NoSuch", "z"))
        self.check(desk, "close z", ("NoSuch", "z"))
        self.check(desk, "lead d", ("NotStill", "d"))
        self.check(desk, "mend z", ("NoSuch", "z"))
        self.check(desk, "redo", ("NoStep", "redo"))
        self.check(desk, "nosums z", ("NoSuch", "z"))
        for word in ("text", "tree", "words", "nodes", "many", "stop", "print", "about", "hangs", "show", "tally"):
            self.check(desk, word + " z", ("NoSuch", "z"))
        self.check(desk, "worth z 1 n", ("NoSuch", "z"))
        self.check(desk, "print e 3", ("NoReading", 1, [".", "plus"]))

    def test_entries(self):
        desk = Desk()
        rows = [("grammar g " + SUMS, "grammar"), ("open d g 1", "open"), ("text d", "text"), ("text z", "text"),
                ("other", ""), (None, ""), ("", ""), ("undo ", ""), ("edit d 9 9 ", "edit"), ("undo", "undo"),
                ("turn g drop", ""), ("grammar g x", "grammar")]
        for row, _ in rows:
            fields(lambda: desk.say(row))
            self.assertIs(desk.is_busy(), False)
        self.assertEqual(desk.entries(), [(way, word) for _, word in rows for way in ("in", "out")])
        desk.entries().clear()
        self.assertEqual(len(desk.entries()), 24)
        self.assertEqual(desk.log(), ["grammar g " + SUMS, "open d g 1", "undo"])


class Logs(unittest.TestCase):
    def drive(self, seed):
        chance = Random(seed)
        base = chance.choice(list(SAMPLES))
        desk = Desk()
        desk.say("grammar g " + show_grammar(SAMPLES[base]))
        alphabet = ALPHABETS.get(base, "xy ") + "\\\n"
        for _ in range(30):
            name = chance.choice("abcd")
            word = chance.choice(["open", "still", "edit", "edit", "edit", "turn", "turn", "lead", "mend", "undo",
                                  "redo", "close", "layout", "sums", "nosums", "text", "stop"])
            text = some_text(chance, chance.randint(0, 4), alphabet)
            if word == "turn":
                row = self.turn_row(desk, chance)
            elif word in ("open", "still"):
                row = f"{word} {name} g {text}"
            elif word == "edit":
                row = f"edit {name} {chance.randint(0, 3)} {chance.randint(0, 2)} {text}"
            elif word in ("undo", "redo"):
                row = word
            elif word == "layout":
                row = "layout g " + chance.choice(["", "p", "both near soft", "p blank near\nq"])
            elif word in ("sums", "nosums"):
                row = word + " g" + (" up n number: sum term;" if word == "sums" else "")
            else:
                row = f"{word} {name}"
            fields(lambda: desk.say(row))
        return desk

    def turn_row(self, desk, chance):
        if desk.say("tongues") == "none":
            return "turn g "
        grammar = read_grammar(desk.say("show g"))[0]
        deed = some_deed(grammar, chance)
        is_tree = deed[0] == "put" and isinstance(deed[4], tuple)
        if is_tree and not deed[4][0]:
            return "turn g "
        if deed[0] == "put" and not is_tree and not isinstance(deed[4], str):
            return "turn g "
        return "turn g " + show_deed(deed, parts=parts_of(grammar, deed[4][0], name=deed[3]) if is_tree else None)

    def test_there_and_back(self):
        rows = 0
        for seed in range(40):
            desk = self.drive(seed)
            rows += len(desk)
            log, text = desk.log(), desk.log_text()
            self.assertEqual(len(text.split("\n")) - 1, len(log))
            self.assertEqual((len(desk), repr(desk)), (len(log), f"Desk({len(log)})"))
            others = [desk_of(log), desk_from(text), desk_of(desk_of(log).log())]
            for other in others:
                self.assertEqual(other, desk)
                self.assertEqual((other.log(), other.log_text()), (log, text))
            told = self.answers(desk)
            for other in others:
                self.assertEqual(self.answers(other), told)
        self.assertGreater(rows, 300)

    def answers(self, desk):
        """The answers to all questions, and to some deeds, which are taken back."""
        found = asked(desk)
        found += [fields(lambda: desk.say(row)) for row in ("open z g xy", "words z", "undo", "redo", "undo", "undo",
                                                            "redo")]
        return found + asked(desk)

    def test_strokes_and_line_feeds(self):
        desk = desk_with("open d g \\n\n\\\\")
        self.assertEqual(desk.log_text().split("\n")[1], "open d g \\\\n\\n\\\\\\\\")
        other = desk_from(desk.log_text())
        self.assertEqual((other.say("text d"), other.log()), ("\\n\n\\\\", desk.log()))
        self.assertEqual((desk_from(""), desk_of([])), (Desk(), Desk()))
        self.assertEqual(Desk().log_text(), "")
        desk.log().clear()
        self.assertEqual(len(desk.log()), 2)

    def test_no_text_of_the_first_sign(self):
        good = "grammar g word a [a]; rule b: c: a;\nopen d g a\n"
        for text, at in (("a", 1), ("undo", 4), (good + "x", len(good) + 1), (good[:-1], len(good) - 1), ("\\", 1),
                         ("\\x\n", 1), ("\\\n", 1), ("ab\\", 3), ("\\\\", 2), ("\\n", 2),
                         (good + "\\t\n", len(good) + 1), ("\\N", 1), ("undo\n\\\\\\\"\n", 8)):
            self.assertEqual(fields(lambda: desk_from(text)), ("NoText", at), text)

    def test_stopped(self):
        rows = ["grammar g word a [a]; rule b: c: a;", "open d g a"]
        for more, number, cause in (([None], 2, NoRow), (["undo", "undo", "undo"], 4, None), ([""], 2, NoRow),
                                    (["text d", "text z"], 3, None), (["grammar h word"], 2, NoText),
                                    (["grammar h word a [a]; rule b: c: z;", "x"], 2, NoGrammar)):
            with self.assertRaises(Stopped) as caught:
                desk_of(rows + more)
            self.assertEqual(caught.exception.number, number)
            self.assertIsInstance(caught.exception.__cause__, YardError if cause is None else cause)
            if all(isinstance(row, str) for row in more):
                self.assertEqual(fields(lambda: desk_from("".join(row + "\n" for row in rows + more))),
                                 ("Stopped", number))
        # Signs go ahead of what the rows say.
        self.assertEqual(fields(lambda: desk_from("x\ny")), ("NoText", 3))
        self.assertEqual(fields(lambda: desk_from("\n")), ("Stopped", 0))
        # Questions may be among the rows that are said.
        self.assertEqual(desk_of(rows + ["text d", "tongues"]).log(), rows)
        held = list(rows)
        desk_of(rows)
        self.assertEqual(rows, held)

    def test_equal(self):
        one, other = desk_with("open d g 1"), desk_with("open d g 2")
        self.assertNotEqual(one, other)
        other.say("edit d 0 1 1")
        self.assertEqual(one, other)
        self.assertNotEqual(len(one), len(other))
        for thing in (None, Bench(), "Desk(2)", 2, []):
            self.assertFalse(one == thing)
        one.say("turn g ")
        self.assertNotEqual(one, other)
        self.assertEqual((repr(Desk()), len(Desk()), Desk()), ("Desk(0)", 0, Desk()))

    def test_two_desks(self):
        one, other = desk_with("open d g 1"), Desk()
        other.say("grammar g word a [a]; rule b: c: a;")
        other.say("open d g a")
        self.assertEqual((one.say("words d"), other.say("words d"), one.say("text d")), ("1", "1", "1"))


class Shown(unittest.TestCase):
    def test_shows(self):
        desk = desk_with("sums g " + TALLY, "open d g 1+2")
        grammar = self.grammar()
        self.assertEqual(desk.say("show g"), show_grammar(grammar))
        bench = Bench()
        bench.founded("g", grammar)
        bench.summed("g", *sums_read(TALLY))
        self.assertEqual(desk.say("tally g"), show_tally(bench.sums_of("g")))
        bench.opened("d", "g", "1+2")
        tree = bench.document("d").tree_now()
        self.assertEqual(desk.say("tree d"), show_tree(tree, parts_of(grammar, tree[0])))
        small = Desk()
        small.say("grammar s " + show_grammar(Grammar([("x", ("signs", "x"), False), ("y", ("signs", "y"), False)],
                                                      [("a", [("p", ("b", "x")), ("q", ())]), ("b", [("r", ("y",))])])))
        small.say("sums s " + SMALL_TEXT)
        self.assertEqual(small.say("tally s"), SMALL_TEXT)

    def grammar(self):
        return read_grammar(SUMS)[0]
