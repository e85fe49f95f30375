"""Points 150 to 163: the bench, against a slow one that tells all anew."""

import copy
import unittest
from random import Random

from tests.brute import more, signs, word
from tests.brute_bench import ALPHABETS, SAMPLES, PlainBench, Refused, nodes_told
from tests.brute_documents import some_text
from tests.brute_grammars import BARRED, grammar_of
from tests.brute_printing import some_marks
from tests.brute_worths import some_tallies
from tests.test_deeds import some_deed
from tests.test_documents import some_edit
from tongueyard.bench import Bench
from tongueyard.bridges import Bridge
from tongueyard.deeds import turn
from tongueyard.documents import Document
from tongueyard.errors import (AllBarred, NoDeed, NoGiven, NoGrammar, NoLayout, NoMend, NoName, NoReading, NoRoom,
                               NoSpan, NoStep, NoSuch, NoTally, NoVersion,
                               NotAlone, NotDone, NotStill, Ringed, RoundWorths, Stopped, Taken, YardError)
from tongueyard.grammars import END, Grammar
from tongueyard.judge import lets_by
from tongueyard.layouts import Layout
from tongueyard.readers import Reader
from tongueyard.tallies import completed
from tongueyard.trees import flat

SIMPLE, LISTS = SAMPLES["sums"], SAMPLES["lists"]
UP = [("n", "up", "number", ("sum", "term"))]
LEAF = [("leaf", 0, "n", ("long", ("word", 1)))]


def fields(call):
    try:
        return call()
    except YardError as found:
        return (type(found).__name__,) + tuple(found.__dict__.values())
    except Refused as found:
        return found.args


class Driven:
    """A bench and a slow one, driven side by side."""

    def __init__(self, test, seed):
        self.test, self.chance, self.bench, self.plain = test, Random(seed), Bench(), PlainBench()
        self.entries, self.counts = [], {}
        self.base = self.chance.choice(list(SAMPLES))
        self.seen_words, self.seen_nodes = set(), set()

    def count(self, word):
        self.counts[word] = self.counts.get(word, 0) + 1

    def step(self):
        chance, plain = self.chance, self.plain
        deeds = ["edit"] * 6 + ["edits"] * 2 + ["turn"] * 6 + ["undo"] * 3 + ["redo"] * 2 + ["lead"] * 5 + ["mend"] * 3 + ["summed", "summed", "unsummed", "laid_out", "laid_out"] + ["opened"] * 3 + ["closed"]
        deed = chance.choice(deeds)
        if len(plain.grammars) < 1 + (chance.random() < 0.05):
            deed = "founded"
        elif not plain.leaves or deed == "opened" and len(plain.leaves) < 5:
            deed = "opened"
        elif deed == "opened":
            deed = "edit"
        if plain.future and chance.random() < 0.3:
            deed = "redo"
        if deed == "turn" and max(len(rows) for rows in plain.grammars.values()) > 8:
            deed = "lead"
        self.entries.append(deed)
        getattr(self, deed)()
        self.check()

    def both(self, word, real, slow):
        """Does a deed with both; a refusal of the slow one is that of the program."""
        wanted = fields(slow)
        told = fields(real)
        if isinstance(wanted, tuple):
            self.count(wanted[0])
        else:
            self.count(word)
        self.test.assertEqual(told, wanted, word)

    def founded(self):
        name = self.chance.choice([one for one in ("g", "h", "k") if one not in self.plain.grammars])
        grammar = SAMPLES[self.base]
        self.plain.found(name, grammar)
        self.test.assertEqual(self.bench.founded(name, grammar), 0)

    def some_name(self):
        return self.chance.choice(sorted(self.plain.leaves))

    def some_tongue(self):
        return self.chance.choice(sorted(self.plain.grammars))

    def alphabet(self):
        return ALPHABETS.get(self.base, "xy ")

    def opened(self):
        name = self.chance.choice([one for one in ("a", "b", "c", "d", "e", "f") if one not in self.plain.leaves])
        home, still = self.some_tongue(), self.chance.random() < 0.5
        text = some_text(self.chance, self.chance.randint(0, 5), self.alphabet())
        self.plain.open(name, home, text, still)
        self.test.assertIsNone(self.bench.opened(name, home, text, still=still))

    def closed(self):
        name = self.some_name()
        self.plain.close(name)
        self.test.assertIsNone(self.bench.closed(name))

    def edit(self):
        name = self.some_name()
        text = self.plain.leaves[name].document.text
        at, gone, put = some_edit(self.chance, text, self.alphabet())
        if len(text) > 8:
            at, gone, put = 1, len(text) - 4, ""
        self.plain.edit(name, [(at, gone, put)])
        self.test.assertIsNone(self.bench.edit(name, at, gone=gone, put=put))

    def edits(self):
        name = self.some_name()
        text, rows = self.plain.leaves[name].document.text, []
        for _ in range(self.chance.randint(0, 2)):
            at, gone, put = some_edit(self.chance, text, self.alphabet())
            rows.append((at, gone, put))
            text = text[:at] + put + text[at + gone:]
        self.plain.edit(name, rows)
        self.test.assertIsNone(self.bench.edits(name, rows))

    def turn(self):
        name = self.some_tongue()
        grammar = self.plain.newest(name)[0]
        deeds = []
        for _ in range(self.chance.choice([0, 1, 1, 1, 2])):
            deed = some_deed(grammar, self.chance)
            try:
                grammar = turn(grammar, [deed])[0]
            except NotDone:
                if self.chance.random() < 0.9:
                    continue
            deeds.append(deed)
        number = len(self.plain.grammars[name])

        def slow():
            self.plain.turn(name, deeds)
            return number
        self.both("turn", lambda: self.bench.turn(name, deeds), slow)

    def undo(self):
        if not self.plain.past:
            self.test.assertEqual(fields(self.bench.undo), ("NoStep", "undo"))
            return
        self.plain.move(self.plain.past, self.plain.future)
        self.test.assertIsNone(self.bench.undo())
        self.count("undo")

    def redo(self):
        if not self.plain.future:
            self.test.assertEqual(fields(self.bench.redo), ("NoStep", "redo"))
            return
        self.plain.move(self.plain.future, self.plain.past)
        self.test.assertIsNone(self.bench.redo())
        self.count("redo")

    def lead(self):
        name = self.some_name()
        still = [one for one, leaf in self.plain.leaves.items() if leaf.still]
        if still and self.chance.random() < 0.9:
            name = self.chance.choice(sorted(still))
        self.both("lead", lambda: self.bench.lead(name), lambda: self.plain.lead(name))

    def mend(self):
        name = self.some_name()
        self.both("mend", lambda: self.bench.mend(name), lambda: self.plain.mend(name))

    def summed(self):
        name = self.some_tongue()
        grammar, marks, _, bridge = self.plain.newest(name)
        tally = some_tallies(grammar, self.chance.randint(0, 999), 1)[0]
        downs = [mark[0] for mark in tally[0] if mark[1] == "down" and grammar.begin() in mark[3]]

        def slow():
            if downs:
                raise Refused("NoGiven", downs[0])
            self.plain.put_newest(name, (grammar, marks, tally, bridge))
        self.both("summed", lambda: self.bench.summed(name, list(tally[0]), list(tally[1])), slow)

    def unsummed(self):
        name = self.some_tongue()
        grammar, marks, tally, bridge = self.plain.newest(name)
        if tally is not None:
            self.plain.put_newest(name, (grammar, marks, None, bridge))
        self.test.assertIsNone(self.bench.unsummed(name))

    def laid_out(self):
        name = self.some_tongue()
        grammar, _, tally, bridge = self.plain.newest(name)
        marks = some_marks(grammar, self.chance)
        self.plain.put_newest(name, (grammar, marks, tally, bridge))
        self.test.assertIsNone(self.bench.laid_out(name, marks))

    def check(self):
        test, bench, plain = self.test, self.bench, self.plain
        test.assertEqual((bench.tongues(), bench.docs()), (sorted(plain.grammars), sorted(plain.leaves)))
        test.assertEqual((len(bench), repr(bench)), (len(plain.leaves), f"Bench({len(plain.leaves)})"))
        test.assertEqual(bench.spared(), plain.spared)
        test.assertEqual(bench.changed(), plain.changed())
        test.assertIs(bench.is_busy(), False)
        test.assertEqual(bench.entries(), [(way, one) for one in self.entries for way in ("in", "out")])
        for name, versions in plain.grammars.items():
            test.assertEqual(bench.versions(name), len(versions))
            for number, (grammar, marks, tally, bridge) in enumerate(versions):
                test.assertEqual(bench.grammar_of(name, version=number), grammar)
                test.assertEqual(bench.layout_of(name, version=number), Layout(grammar, marks))
                test.assertEqual(bench.sums_of(name, version=number), tally)
                if number > 0:
                    test.assertEqual(bench.bridge_of(name, number), bridge)
        for name, leaf in plain.leaves.items():
            self.check_leaf(name, leaf)

    def check_leaf(self, name, leaf):
        test, bench, document = self.test, self.bench, leaf.document
        test.assertEqual(bench.about(name), (leaf.home, leaf.number, leaf.still))
        told = bench.document(name)
        test.assertEqual((told.text_now(), told.words_now()), (document.text, document.words))
        _, _, stop, many, _, last = document.snapshot()
        test.assertEqual(told.stop_now(), stop)
        test.assertEqual(told.change_now(), ([], sorted(word[0] for word in document.words), [], sorted(last)))
        grammar = self.plain.version_of(leaf)[0]
        if not leaf.still:
            test.assertEqual(leaf.number, len(self.plain.grammars[leaf.home]) - 1)
        if not many:
            at, kinds = document.stop
            for call in (bench.print_of, bench.worths_of, bench.hangs_of):
                test.assertEqual(fields(lambda: call(name)), ("NoReading", at, kinds))
        else:
            test.assertEqual((told.many_now(), told.nodes_now(), told.tree_now()),
                             (many, nodes_told(document), self.plain.tree(leaf)))
            worths = self.plain.worths(name)
            found = fields(lambda: bench.worths_of(name))
            test.assertEqual(found[0] if isinstance(found, tuple) else found,
                             "RoundWorths" if worths == "round" else worths)
            test.assertEqual(bench.hangs_of(name), [label for label in grammar.labels() if label in document.shape])
        if self.chance.random() < 0.2:
            self.check_papers(name, document, many)
            if many:
                for width in (None, 0, 4):
                    test.assertEqual(fields(lambda: bench.print_of(name, width=width)),
                                     fields(lambda: self.plain.print_of(name, width)))

    def check_papers(self, name, document, many):
        papers = self.bench.papers_of(name)
        words = [paper[0] for _, paper in papers]
        self.test.assertTrue(all(lets_by(grammar, paper) and not grammar.bars() for grammar, paper in papers))
        if many:
            has_table = Reader(document.grammar).has_table()
            self.test.assertEqual(words, ["tree"] + (["table"] if has_table else ["two"] if many > 1 else []))
        else:
            self.test.assertEqual(words, ["dead" if document.stop[0] < len(document.row) else "none"])
            row = tuple(document.words[at][1] for at in document.row)
            self.test.assertEqual(papers[0][1][1], row[:document.stop[0] + 1])


class DrivenOnes(unittest.TestCase):
    def test_many_steps(self):
        counts = {}
        spared, changed = 0, 0
        for seed in range(150):
            driven = Driven(self, seed)
            for _ in range(24):
                driven.step()
                spared += len(driven.plain.spared)
                changed += len(driven.plain.changed())
            for word, many in driven.counts.items():
                counts[word] = counts.get(word, 0) + many
        for word, many in (("turn", 120), ("lead", 25), ("mend", 50), ("undo", 80), ("redo", 15), ("summed", 10),
                           ("NotDone", 4), ("NotStill", 3), ("NoReading", 3), ("NoLead", 2), ("Ringed", 1)):
            self.assertGreater(counts.get(word, 0), many, (word, counts))
        self.assertGreater(spared, 30)
        self.assertGreater(changed, 300)


def bench_with(grammar=SIMPLE, **texts):
    bench = Bench()
    bench.founded("g", grammar)
    for name, text in texts.items():
        bench.opened(name, "g", text)
    return bench


def everything(bench):
    """All that is told, but for what is spared or changed."""
    told = [bench.tongues(), bench.docs()]
    for name in bench.tongues():
        for number in range(bench.versions(name)):
            layout = bench.layout_of(name, version=number)
            told += [bench.grammar_of(name, version=number),
                     [layout.marks_of(label) for label in layout.grammar.labels()], bench.sums_of(name, version=number)]
    for name in bench.docs():
        document = bench.document(name)
        told += [bench.about(name), document.text_now(), document.words_now(), document.stop_now(),
                 fields(document.nodes_now), fields(lambda: bench.worths_of(name)),
                 fields(lambda: bench.print_of(name)), document.change_now()]
    return told


class Refusals(unittest.TestCase):
    def deeds(self, bench, name, other="g"):
        return [("founded", lambda: bench.founded(name, SIMPLE)), ("summed", lambda: bench.summed(name, None, None)),
                ("unsummed", lambda: bench.unsummed(name)), ("laid_out", lambda: bench.laid_out(name, None)),
                ("turn", lambda: bench.turn(name, None)), ("opened", lambda: bench.opened(name, other, "")),
                ("closed", lambda: bench.closed(name)), ("edit", lambda: bench.edit(name, -1)),
                ("edits", lambda: bench.edits(name, [(-1, 0, "")])), ("lead", lambda: bench.lead(name)),
                ("mend", lambda: bench.mend(name))]

    def asks(self, bench, name):
        return [lambda: bench.versions(name), lambda: bench.grammar_of(name), lambda: bench.sums_of(name),
                lambda: bench.layout_of(name, version=99), lambda: bench.bridge_of(name, 99), lambda: bench.about(name),
                lambda: bench.document(name), lambda: bench.print_of(name), lambda: bench.worths_of(name),
                lambda: bench.hangs_of(name), lambda: bench.papers_of(name)]

    def test_names(self):
        bench = bench_with(d="1")
        ahead = everything(bench)
        for name in ("", "G", "word", "toolonger", "a b", None, 7, ("g",), ["g"]):
            for _, call in self.deeds(bench, name, name) + [("", call) for call in self.asks(bench, name)]:
                self.assertEqual(fields(call), ("NoName", name))
        for word, call in self.deeds(bench, "z", "y"):
            self.assertEqual(fields(call) if word != "founded" else ("NoSuch", "z"),
                             ("NoSuch", "y" if word == "opened" else "z"), word)
        for call in self.asks(bench, "z"):
            self.assertEqual(fields(call), ("NoSuch", "z"))
        self.assertEqual(everything(bench), ahead)

    def test_taken_and_in_this_order(self):
        bench = bench_with(d="1")
        ringed = grammar_of("a: p a | q x")
        for name, grammar, told in (("Z", ringed, ("NoName", "Z")), ("g", ringed, ("Taken", "g")),
                                    ("z", ringed, ("Ringed", "a")), ("z",
                                        grammar_of("a: p b\n b: q x", bars=(("p", 1, "q"),)), ("AllBarred",))):
            self.assertEqual(fields(lambda: bench.founded(name, grammar)), told)
        long = "1" * 201
        for name, home, told in (("D", "G", ("NoName", "D")), ("d", "G", ("NoName", "G")), ("e", "G", ("NoName", "G")),
                                 ("d", "z", ("Taken", "d")), ("d", "g", ("Taken", "d")), ("e", "z", ("NoSuch", "z")),
                                 ("e", "g", ("NoRoom", 201))):
            self.assertEqual(fields(lambda: bench.opened(name, home, long)), told)
            self.assertEqual(fields(lambda: bench.opened(name, home, long, still=True)), told)
        # A grammar and a document may have one name.
        self.assertIsNone(bench.opened("g", "g", "1" * 200))
        self.assertEqual(bench.founded("d", LISTS), 0)
        self.assertEqual((bench.tongues(), bench.docs()), (["d", "g"], ["d", "g"]))

    def test_versions(self):
        bench = bench_with()
        bench.turn("g", [])
        for number in (-1, 2, 99, 10 ** 29):
            for call in (bench.grammar_of, bench.sums_of, bench.layout_of):
                self.assertEqual(fields(lambda: call("g", version=number)), ("NoVersion", number))
        for number in (-1, 0, 2, 99):
            self.assertEqual(fields(lambda: bench.bridge_of("g", number)), ("NoVersion", number))
        self.assertEqual(bench.bridge_of("g", 1), Bridge())

    def test_of_each_deed(self):
        bench = bench_with(d="1+2", e="1 1")
        bench.summed("g", UP, LEAF)
        ahead, entries = everything(bench), bench.entries()
        calls = [
            (lambda: bench.summed("g", [("n", "up", "number", ("z",))], []), ("NoTally", "mark", 0)),
                 (lambda: bench.summed("g", UP, LEAF + LEAF), ("NoTally", "sum", 1)),
            (lambda: bench.summed("g", [("d", "down", "number", ("term",))], []),
             ("NoTally", "lacks", ("one", 1, "d"))), (lambda: bench.summed("g",
                 UP + [("k", "down", "number", ("sum",)), ("j", "down", "text", ("sum",))], LEAF), ("NoGiven", "k")),
            (lambda: bench.laid_out("g", {"both": ("near",)}), ("NoLayout", "both")),
                 (lambda: bench.laid_out("g", {"leaf": (), "z": ()}), ("NoLayout", "z")),
            (lambda: bench.turn("g", [("drop", "z")]), ("NotDone", 0)),
                 (lambda: bench.turn("g", [("drop", "none"), ("call", "sum", "term")]), ("NotDone", 1)),
                 (lambda: bench.turn("g", [("add", "sum", 0, "self", ("sum",))]), ("Ringed", "sum")),
            (lambda: bench.turn("g", [("drop", "both"), ("bar", "one", 1, "leaf"), ("bar", "one", 1, "none")]),
             ("AllBarred",)), (lambda: bench.edit("d", 2, gone=2), ("NoSpan", (2, 2))),
                 (lambda: bench.edit("d", 0, put="1" * 198), ("NoRoom", 201)),
            (lambda: bench.edits("d", [(0, 1, ""), (3, 0, "")]), ("Stopped", 1)),
                 (lambda: bench.lead("d"), ("NotStill", "d")), (bench.redo, ("NoStep", "redo"))]
        for call, told in calls:
            found = fields(call)
            self.assertEqual(found, told)
        self.assertEqual(everything(bench), ahead)
        self.assertEqual(bench.entries()[:len(entries)], entries)
        self.assertEqual([one for one in bench.entries()[len(entries):]], [(way, word) for word in (
            "summed", "summed", "summed", "summed", "laid_out", "laid_out", "turn", "turn", "turn", "turn", "edit",
                "edit", "edits", "lead", "redo") for way in ("in", "out")])
        # What is refused takes no numbers: the next word and node are those that come behind.
        bench.opened("f", "g", "3")
        self.assertEqual(bench.document("f").words_now()[0][0], 7)
        self.assertEqual(list(bench.document("f").nodes_now()[1]), [5, 6])

    def test_raised_from(self):
        bench = bench_with(d="1")
        with self.assertRaises(NotDone) as caught:
            bench.turn("g", [("drop", "none"), ("drop", "none")])
        self.assertIsInstance(caught.exception.__cause__, NoDeed)
        with self.assertRaises(NotDone) as caught:
            bench.turn("g", [("call", "sum", "num")])
        self.assertEqual((type(caught.exception.__cause__), caught.exception.__cause__.what), (NoGrammar, "twice"))
        with self.assertRaises(Stopped) as caught:
            bench.edits("d", [(0, 0, "1"), (9, 0, "")])
        self.assertEqual(caught.exception.__cause__.span, (9, 0))

    def test_tallies_over_turns(self):
        bench = bench_with()
        marks = [("n", "up", "number", ("sum",)), ("d", "down", "number", ("term",))]
        sums = [("one", 0, "n", ("number", 1)), ("both", 0, "n", ("at", 1, "n")), ("one", 1, "d", ("number", 2)),
                ("both", 3, "d", ("number", 3))]
        bench.summed("g", marks, sums)
        # What is led and completed lacks a sum for a new place; or the beginning bears a down.
        self.assertEqual(fields(lambda: bench.turn("g", [("add", "sum", 0, "new", ("plus", "term"))])),
                         ("NoTally", "lacks", ("new", 2, "d")))
        self.assertEqual(fields(lambda: bench.turn("g", [("begin", "term")])), ("NoGiven", "d"))
        self.assertEqual(bench.turn("g", [("add", "sum", 0, "new", ("plus", "sum"))]), 1)
        self.assertEqual(bench.sums_of("g"), completed(bench.grammar_of("g"), marks,
                                                       sums + [("new", 0, "n", ("at", 2, "n"))]))
        self.assertEqual(bench.sums_of("g", version=0), completed(SIMPLE, marks, sums))


class Steps(unittest.TestCase):
    def test_no_steps(self):
        bench = bench_with(d="1+2", e="1")
        bench.opened("s", "g", "2", still=True)
        bench.edit("d", 0, put="7")
        bench.undo()
        ahead = everything(bench), bench.changed(), bench.spared()
        for call in (lambda: bench.unsummed("g"), lambda: bench.edit("d", 0),
                     lambda: bench.edit("d", 0, gone=3, put="1+2"), lambda: bench.edits("d", []),
                     lambda: bench.edits("d", [(0, 1, "1")]), lambda: bench.lead("s")):
            self.assertIsNone(call())
            self.assertEqual((everything(bench), bench.changed(), bench.spared()), ahead)
        self.assertEqual(bench.mend("d"), 0)
        self.assertEqual((everything(bench), bench.changed(), bench.spared()), ahead)
        bench.redo()
        self.assertEqual(bench.document("d").text_now(), "71+2")
        # Those that are steps whatever was there end what could be done again.
        for call in (lambda: bench.summed("g", [], []), lambda: bench.laid_out("g", {}), lambda: bench.turn("g", [])):
            bench.undo()
            call()
            self.assertEqual(fields(bench.redo), ("NoStep", "redo"))
            bench.undo()
            bench.redo()
            call()
        self.assertEqual(bench.versions("g"), 3)

    def test_undo_and_redo_of_each_sort(self):
        bench = Bench()
        self.assertEqual(fields(bench.undo), ("NoStep", "undo"))
        deeds = [lambda: bench.founded("g", SIMPLE), lambda: bench.opened("d", "g", "1+ 2"),
                 lambda: bench.opened("s", "g", "3", still=True), lambda: bench.summed("g", UP, LEAF),
                 lambda: bench.laid_out("g", {"both": ("blank", "soft")}),
                 lambda: bench.turn("g", [("label", "both", "more"), ("add", "term", 0, "neg", ("plus", "term"))]),
                 lambda: bench.edit("d", 0, put="+"), lambda: bench.edits("d", [(0, 1, ""), (0, 0, "9")]),
                 lambda: bench.lead("s"),
                 lambda: bench.edit("d", 0, put="? "), lambda: bench.mend("d"), lambda: bench.unsummed("g"),
                 lambda: bench.closed("d"), lambda: bench.founded("h", LISTS)]
        seen = [everything(bench)]
        for deed in deeds:
            deed()
            seen.append(everything(bench))
        for at in range(len(seen) - 2, -1, -1):
            bench.undo()
            self.assertEqual(everything(bench), seen[at])
            self.assertEqual(bench.spared(), [])
        self.assertEqual(fields(bench.undo), ("NoStep", "undo"))
        for at in range(1, len(seen)):
            bench.redo()
            self.assertEqual(everything(bench), seen[at])
            self.assertEqual(bench.spared(), [])
        self.assertEqual(fields(bench.redo), ("NoStep", "redo"))

    def test_numbers_over_the_whole_house(self):
        bench = bench_with(b="1+2", a="3")
        self.assertEqual([word[0] for word in bench.document("a").words_now()], [4])
        self.assertEqual(list(bench.document("a").nodes_now()[1]), [5, 6])
        bench.edit("b", 3, put="+4")
        self.assertEqual([word[0] for word in bench.document("b").words_now()], [1, 2, 3, 5, 6])
        bench.edit("a", 1, put="0")
        self.assertEqual([word[0] for word in bench.document("a").words_now()], [7])
        self.assertEqual(list(bench.document("a").nodes_now()[1]), [9, 10])
        bench.undo()
        bench.undo()
        bench.edit("a", 0, put="8")
        self.assertEqual([word[0] for word in bench.document("a").words_now()], [8])
        # At a turn what is new gets its numbers document by document, by their names.
        bench.turn("g", [("word", 0, "two", signs("28"), False), ("add", "term", 0, "twin", ("two",)),
                         ("kind", "num", more(signs("0123456789")), False)])
        words = {name: [word[0] for word in bench.document(name).words_now()] for name in "ab"}
        self.assertEqual(words, {"a": [8], "b": [1, 2, 9]})
        self.assertEqual(bench.document("a").stop_now(), None)

    def test_what_stays_over_a_turn(self):
        bench = bench_with(d="1 +2", e="1 ? 2")
        nodes, words = bench.document("d").nodes_now(), bench.document("d").words_now()
        bench.turn("g", [("call", "num", "fig"), ("call", "sum", "all"), ("label", "both", "more"),
                         ("label", "leaf", "fig")])
        self.assertEqual([word[0] for word in bench.document("d").words_now()], [word[0] for word in words])
        self.assertEqual([word[1] for word in bench.document("d").words_now()], ["fig", "gap", "plus", "fig"])
        self.assertEqual(list(bench.document("d").nodes_now()[1]), list(nodes[1]))
        self.assertEqual([word[:2] for word in bench.document("e").words_now()],
                         [(5, "fig"), (6, "gap"), (7, ""), (8, "gap"), (9, "fig")])
        self.assertEqual((bench.spared(), bench.changed()), (["d"], []) if bench.document("e").stop_now() == (7,
            [END, "plus"]) else (["d"], ["e"]))
        # Labels of a last tree lead on while the text does not read.
        bench.edit("d", 0, put="?")
        bench.turn("g", [("label", "more", "most")])
        bench.turn("g", [("label", "most", "last")])
        bench.edit("d", 0, gone=1)
        self.assertEqual(list(bench.document("d").nodes_now()[1]), list(nodes[1]))
        self.assertEqual(bench.document("d").tree_now()[0], ("last", "one", "fig", "fig"))
        bench.edit("d", 0, put="?")
        bench.turn("g", [("drop", "last"), ("add", "all", 1, "last", ("all", "plus", "term"))])
        bench.edit("d", 0, gone=1)
        self.assertEqual(len(set(bench.document("d").nodes_now()[1]) - set(nodes[1])), 1)

    def test_nodes_without_words_over_a_turn(self):
        bench = bench_with(LISTS, d="y", e="")
        nodes = bench.document("d").nodes_now()
        bench.turn("g", [("label", "v", "vv"), ("label", "w", "ww")])
        self.assertEqual(list(bench.document("d").nodes_now()[1]), list(nodes[1]))
        self.assertEqual(bench.spared(), ["d", "e"])
        # Another place among the parts: those without words, and all in them, are new.
        bench.turn("g", [("turn", "s", (1, 3, 2))])
        self.assertEqual(bench.spared(), ["e"])
        old = {label: number for number, (label, _) in nodes[1].items()}
        new = {label: number for number, (label, _) in bench.document("d").nodes_now()[1].items()}
        self.assertEqual(sorted(label for label in new if new[label] != old.get({"vv": "v", "ww": "w"}.get(label,
            label))), ["t", "vv", "ww"])
        bench.turn("g", [("label", "q", "z"), ("begin", "a")])
        self.assertEqual(bench.document("e").nodes_now()[0], 7)
        # Where a word stood at that place no node did.
        bench = bench_with(grammar_of("a: p x y b\n b: r", kinds=SAMPLES["even"].kinds()), d="xy")
        bench.turn("g", [("turn", "p", (1, 3, 2))])
        self.assertEqual(list(bench.document("d").nodes_now()[1]), [1, 3])
        bench.turn("g", [("take", "p", 1)])
        bench.edit("d", 0, gone=1)
        self.assertEqual(list(bench.document("d").nodes_now()[1]), [4, 5])


class Spared(unittest.TestCase):
    def test_each_reason(self):
        grammar = grammar_of("a: p b a | q\n b: r x | s y | t gap", kinds=[("x", signs("x"), False),
            ("y", more(signs("y")), False), ("gap", signs(" "), False)])
        self.assertIs(Reader(grammar).has_table(), True)
        for deeds, spared in (
                ([], True), ([("call", "x", "z")], True), ([("label", "p", "z")], True),
                              ([("add", "b", 0, "new", ("x", "x"))], False),
                              ([("add", "b", 0, "new", ("y", "x"))], False),
                              ([("add", "a", 0, "new", ("gap", "x"))], False),
                ([("drop", "s")], True), ([("drop", "r")], False), ([("drop", "t")], False),
                              ([("rule", 0, "c", [("new", ("x",))])], True),
                              ([("word", 3, "z", signs("z"), False)], True),
                              ([("word", 0, "z", signs("x"), False)], False),
                ([("kind", "y", signs("y"), False)], True), ([("kind", "x", word("xx"), False)], False),
                              ([("turn", "p", (1, 2))], True), ([("turn", "p", (2, 1)), ("turn", "p", (2, 1))], False),
                              ([("put", "r", 1, "y", "y")], False),
                ([("fold", "p", 1, 2, "c", "new")], False), ([("bar", "p", 1, "s")], True),
                              ([("bar", "p", 1, "r")], False), ([("begin", "b")], False),
                              ([("drop", "t"), ("kind", "gap", signs(" "), True)], False),
                ([("add", "b", 0, "new", ("x",))], False)):
            bench = bench_with(grammar, d="x x", e="x?", f="")
            bench.opened("s", "g", "x x", still=True)
            numbers = bench.document("d").words_now(), fields(bench.document("d").nodes_now)
            bench.turn("g", deeds)
            told = bench.spared()
            self.assertEqual("d" in told, spared, deeds)
            self.assertNotIn("e", told)
            self.assertNotIn("s", told)
            if spared:
                self.assertEqual([word[0] for word in bench.document("d").words_now()],
                                 [word[0] for word in numbers[0]])
                self.assertEqual(list(bench.document("d").nodes_now()[1]), list(numbers[1][1]))
                self.assertNotIn("d", bench.changed())
                self.assertIs(Reader(bench.grammar_of("g")).has_table(), True)
            bench.undo()
            self.assertEqual(bench.spared(), [])
            bench.redo()
            self.assertEqual(bench.spared(), [])

    def test_words_that_are_cut_otherwise_and_rows_that_change(self):
        bench = bench_with(d="1  +2", e="1+2")
        # Two blanks are two words now: the row is as it was, but not all words stay.
        bench.turn("g", [("kind", "gap", signs("\n "), True)])
        self.assertEqual((bench.spared(), bench.changed()), (["e"], ["d"]))
        self.assertEqual(list(bench.document("d").nodes_now()[1]), [1, 2, 3, 4])
        # All words stay, but the blanks are in the row.
        bench.turn("g", [("kind", "gap", signs("\n "), False)])
        self.assertEqual((bench.spared(), bench.changed()), (["e"], ["d"]))
        self.assertEqual(bench.document("d").stop_now()[0], bench.document("d").words_now()[1][0])

    def test_no_table_spares_none(self):
        bench = bench_with(SAMPLES["two"], d="y")
        bench.turn("g", [])
        self.assertEqual((bench.spared(), bench.changed()), ([], []))
        self.assertEqual(bench.document("d").words_now()[0][0], 1)

    def test_what_it_has_not(self):
        bench = bench_with(d="1+2", e="1+")
        self.assertEqual((bench.hangs_of("d"), bench.hangs_of("e")), (["one", "both", "leaf"],
            ["one", "both", "leaf", "none"]))
        # An alternative goes that a document has not, and one comes.
        bench.turn("g", [("drop", "none"), ("add", "term", 1, "neg", ("plus", "plus", "term"))])
        self.assertEqual((bench.spared(), bench.changed()), (["d"], ["e"]))
        self.assertEqual(fields(lambda: bench.hangs_of("e"))[0], "NoReading")

    def test_changed_by_worths(self):
        bench = bench_with(d="1+2", e="? 1")
        bench.summed("g", UP, LEAF)
        self.assertEqual((bench.changed(), bench.spared()), (["d"], []))
        bench.summed("g", UP, LEAF)
        self.assertEqual(bench.changed(), [])
        bench.turn("g", [])
        self.assertEqual((bench.changed(), bench.spared()), ([], ["d"]))
        bench.turn("g", [("add", "term", 0, "neg", ("num", "num")), ("label", "leaf", "neu")])
        self.assertEqual((bench.changed(), bench.spared()), ([], ["d"]))
        bench.summed("g", UP, [("neu", 0, "n", ("number", 1))])
        self.assertEqual(bench.changed(), [])
        bench.summed("g", UP, [("neu", 0, "n", ("number", 9))])
        self.assertEqual(bench.changed(), ["d"])
        bench.unsummed("g")
        self.assertEqual(bench.changed(), ["d"])
        bench.undo()
        self.assertEqual(bench.changed(), ["d"])
        # A mark whose sum is lost is completed otherwise: the document is spared, its worths change.
        bench.turn("g", [("turn", "both", (3, 2, 1)), ("turn", "both", (3, 2, 1)), ("drop", "neu"),
                         ("add", "term", 0, "neu", ("num",))])
        self.assertEqual((bench.changed(), bench.spared()), (["d"], []))

    def test_rings(self):
        grammar = grammar_of("a: p b x | q b y\n b: r | s y")
        bench = Bench()
        bench.founded("g", grammar)
        bench.opened("d", "g", "x")
        marks = [("n", "down", "number", ("b",)), ("m", "up", "number", ("b",))]
        bench.summed("g", marks, [("p", 1, "n", ("at", 1, "m")), ("q", 1, "n", ("number", 1)),
                                  ("r", 0, "m", ("at", 0, "n"))])
        self.assertEqual(bench.changed(), ["d"])
        number = [number for number, (label, _) in bench.document("d").nodes_now()[1].items() if label == "r"][0]
        with self.assertRaises(RoundWorths) as caught:
            bench.worths_of("d")
        self.assertEqual(sorted(caught.exception.circle), [(number, "m"), (number, "n")])
        bench.edit("d", 0, gone=1, put="y")
        self.assertEqual([row[1:] for row in bench.worths_of("d")], [("n", 1), ("m", 1)])
        bench.summed("g", marks, [("p", 1, "n", ("number", 5)), ("q", 1, "n", ("number", 1)),
                                  ("r", 0, "m", ("at", 0, "n"))])
        self.assertEqual(bench.changed(), [])
        # From one ring to another one nothing is changed.
        ring = Bench()
        ring.founded("g", grammar)
        ring.opened("d", "g", "x")
        ring.summed("g", marks, [("p", 1, "n", ("at", 1, "m")), ("q", 1, "n", ("number", 1)),
                                 ("r", 0, "m", ("at", 0, "n"))])
        ring.summed("g", marks, [("p", 1, "n", ("plus", ("at", 1, "m"), ("number", 1))), ("q", 1, "n", ("number", 1)),
                                 ("r", 0, "m", ("at", 0, "n"))])
        self.assertEqual(ring.changed(), [])


class Leads(unittest.TestCase):
    def still(self, text, *turns, grammar=SIMPLE, marks=None):
        bench = Bench()
        bench.founded("g", grammar)
        bench.opened("s", "g", text, still=True)
        for deeds in turns:
            bench.turn("g", deeds)
        if marks:
            bench.laid_out("g", marks)
        return bench

    def test_by_hand(self):
        bench = self.still("1 + 2", [("turn", "both", (3, 2, 1))], [("call", "num", "fig"),
            ("put", "leaf", 1, "plus", "+")])
        words, nodes = bench.document("s").words_now(), bench.document("s").nodes_now()
        self.assertEqual(bench.about("s"), ("g", 0, True))
        bench.lead("s")
        self.assertEqual((bench.about("s"), bench.document("s").text_now()), (("g", 2, True), "+2++1"))
        self.assertEqual(bench.changed(), ["s"])
        told = bench.document("s")
        self.assertEqual([word[:3] for word in told.words_now()], [(6, "plus", "+"), (5, "fig", "2"), (3, "plus", "+"),
            (7, "plus", "+"), (1, "fig", "1")])
        old = {number: label for number, (label, _) in nodes[1].items()}
        self.assertEqual({number: label for number, (label, _) in told.nodes_now()[1].items()}, old)
        self.assertEqual(told.nodes_now()[1][nodes[0]][0], "both")
        bench.undo()
        self.assertEqual((bench.document("s").words_now(), bench.document("s").nodes_now()), (words, nodes))

    def test_in_this_order(self):
        bench = self.still("1 1", [("drop", "none")])
        bench.opened("d", "g", "1")
        self.assertEqual(fields(lambda: bench.lead("d")), ("NotStill", "d"))
        self.assertEqual(fields(lambda: bench.lead("s")), ("NoReading", 1, [END, "plus"]))
        bench.edit("s", 1, gone=1, put="+")
        bench.edit("s", 2, gone=1)
        self.assertEqual(fields(lambda: bench.lead("s")), ("NoLead", 0, 3, "label"))
        bench.edit("s", 2, put="2")
        self.assertIsNone(bench.lead("s"))
        self.assertIsNone(bench.lead("s"))
        bench.edit("s", 0, put="?")
        # At the newest version it is left as it is, read or not.
        self.assertIsNone(bench.lead("s"))

    def test_no_lead_with_its_step(self):
        bench = self.still("1+2", [("call", "num", "fig")], [("turn", "both", (3, 2, 1)),
            ("kind", "fig", signs("01"), False)])
        self.assertEqual(fields(lambda: bench.lead("s")), ("NoLead", 2, 0, "word"))
        bench = self.still("1+2", [("begin", "term")])
        self.assertEqual(fields(lambda: bench.lead("s")), ("NoLead", 0, 0, "begin"))
        bench = self.still("1+2", [], [("bar", "both", 1, "both"), ("nobar", "both", 1, "both"),
                                       ("bar", "both", 3, "leaf")])
        self.assertEqual(fields(lambda: bench.lead("s")), ("NoLead", 2, 0, "bar"))

    def test_not_good_no_print_no_room(self):
        # A word that was one is by a kind ahead another one now.
        bench = self.still("1+2", [("word", 0, "two", signs("2"), False)])
        self.assertEqual(fields(lambda: bench.lead("s")), ("NotGood", 2))
        grammar = Grammar(SIMPLE.kinds()[:2] + [("gap", signs(" "), True)], SIMPLE.rules())
        bench = self.still("1+2", [], grammar=grammar, marks={"both": ("near", "row")})
        self.assertEqual(fields(lambda: bench.lead("s")), ("NoPrint", 1))
        bench = self.still("+".join(["1"] * 60), [("put", "leaf", 2, "num", "23")])
        self.assertEqual(fields(lambda: bench.lead("s")), ("NoRoom", 299))
        bench = self.still("+".join(["1"] * 40), [("put", "leaf", 2, "num", "23")])
        self.assertIsNone(bench.lead("s"))
        self.assertEqual(len(bench.document("s").text_now()), 199)

    def test_not_alone(self):
        grammar = SAMPLES["even"]
        deeds = [("add", "a", 0, "all", ("x", "x"))]
        bench = self.still("xx", deeds, grammar=grammar)
        self.assertEqual(fields(lambda: bench.lead("s")), ("NotAlone", "s"))
        self.assertEqual(bench.about("s"), ("g", 0, True))
        bench = self.still("xx", [("add", "a", 3, "all", ("x", "x"))], grammar=grammar)
        self.assertIsNone(bench.lead("s"))
        self.assertEqual(bench.document("s").many_now(), 2)

    def test_words_put_anew(self):
        grammar = grammar_of("a: p x b | q\n b: r y", kinds=SAMPLES["even"].kinds())
        bench = self.still("xy", grammar=grammar)
        # No row of deeds makes a part stand twice; a word that went and was put in again is new.
        bench.turn("g", [("take", "p", 1), ("put", "p", 1, "x", "x")])
        bench.lead("s")
        self.assertEqual([word[0] for word in bench.document("s").words_now()], [3, 2])
        self.assertEqual(list(bench.document("s").nodes_now()[1]), [1, 2])
        self.assertEqual(bench.document("s").change_now()[1], [2, 3])

    def test_nodes_made_by_the_way(self):
        bench = self.still("1+2", [("fold", "both", 2, 4, "tail", "rest")])
        old = bench.document("s").nodes_now()
        bench.lead("s")
        new = bench.document("s").nodes_now()
        self.assertEqual({number for number in new[1] if number not in old[1]}, {5})
        self.assertEqual(new[1][5][0], "rest")
        bench.turn("g", [("unfold", "both", 2), ("norule", "tail")])
        bench.lead("s")
        self.assertEqual(bench.document("s").nodes_now(), old)


class Mends(unittest.TestCase):
    def test_none_one_and_more(self):
        bench = bench_with(a="1+2", b="1 2", c="? 1 2 3", d="1 1 + ??", e="")
        self.assertEqual(bench.mend("a"), 0)
        self.assertEqual(bench.changed(), ["e"])
        for name, many in (("b", 1), ("c", 2), ("d", 3)):
            words = {word[0] for word in bench.document(name).words_now()}
            ahead = everything(bench)
            self.assertEqual(bench.mend(name), many)
            document = bench.document(name)
            self.assertIsNone(document.stop_now())
            self.assertEqual(document.tree_now(), Document(Reader(SIMPLE), bench.print_of(name)).tree_now())
            self.assertTrue({word[0] for word in document.words_now()} & words)
            bench.undo()
            self.assertEqual(everything(bench), ahead)
            bench.redo()
        self.assertEqual(bench.mend("b"), 0)

    def test_refused(self):
        bench = bench_with(grammar_of("a: p a x", kinds=SAMPLES["even"].kinds()), d="x")
        self.assertEqual(fields(lambda: bench.mend("d")), ("NoMend",))
        kinds = [("x", signs("x"), False), ("y", word("xx"), False), ("z", signs("x"), False),
                 ("gap", signs(" "), True)]
        bench = bench_with(grammar_of("a: p x z", kinds=kinds), d="x x")
        self.assertEqual(fields(lambda: bench.mend("d")), ("NotGood", 1))
        bare = [("num", more(signs("01")), False), ("big", more(signs("2")), False)]
        bench = bench_with(grammar_of("a: p num num", kinds=bare), d="0")
        self.assertEqual(fields(lambda: bench.mend("d")), ("NoPrint", 0))
        bench = bench_with(d="1" * 199 + "?")
        self.assertEqual(bench.mend("d"), 1)
        bench = bench_with(grammar_of("a: p num plus plus", kinds=SIMPLE.kinds()), d="1" * 199 + "+")
        self.assertEqual(fields(lambda: bench.mend("d")), ("NoRoom", 201))
        self.assertEqual(bench.document("d").text_now(), "1" * 199 + "+")

    def test_by_the_layout_and_to_the_least_tree(self):
        bench = bench_with(SAMPLES["two"], d="y?x yx")
        bench.laid_out("g", {"p": ("blank", "near")})
        bench.mend("d")
        self.assertEqual(bench.document("d").text_now(), bench.print_of("d"))
        anew = Document(Reader(SAMPLES["two"]), bench.document("d").text_now())
        self.assertEqual(bench.document("d").tree_now(), anew.tree_now())
        self.assertGreater(anew.many_now(), 1)
        bench = bench_with(SAMPLES["bars"], d="yyx?")
        self.assertEqual(bench.mend("d"), 1)
        self.assertEqual(bench.document("d").tree_now()[0],
                         ("p", "r", "r" if bench.print_of("d").endswith("y") else "s"))

    def test_least_texts(self):
        # The kind has no word of its own, so the least that its pattern spells is put; others get the least word.
        kinds = [("b", signs("b"), False), ("a", more(signs("ab")), False)]
        bench = bench_with(grammar_of("s: p b a", kinds=kinds), d="b")
        self.assertEqual(fields(lambda: bench.mend("d")), ("NoPrint", 0))
        bench = bench_with(grammar_of("s: p a", kinds=kinds), d="b")
        self.assertEqual(bench.mend("d"), 1)
        self.assertEqual(bench.document("d").text_now(), "a")


class Told(unittest.TestCase):
    def test_prints(self):
        bench = bench_with(d="1 +2")
        self.assertEqual(bench.print_of("d"), "1+2")
        bench.laid_out("g", {"both": ("soft", "row")})
        self.assertEqual((bench.print_of("d"), bench.print_of("d", width=99)), ("1\n+\n2", "1\n+\n2"))
        bench.laid_out("g", {"both": ("soft", "soft")})
        self.assertEqual((bench.print_of("d", width=4), bench.print_of("d", width=5)), ("1\n+\n2", "1 + 2"))
        self.assertEqual(bench.layout_of("g").marks_of("both"), ("soft", "soft"))
        # A label that leads straight takes its marks along, another one has none.
        bench.turn("g", [("label", "both", "more"), ("add", "sum", 0, "new", ("num", "num"))])
        self.assertEqual((bench.layout_of("g").marks_of("more"), bench.layout_of("g").marks_of("new")),
                         (("soft", "soft"), ("near",)))
        bench.turn("g", [("turn", "more", (2, 1, 3))])
        self.assertEqual(bench.layout_of("g").marks_of("more"), ("near", "near"))
        self.assertEqual(bench.layout_of("g", version=1).marks_of("more"), ("soft", "soft"))

    def test_worths(self):
        bench = bench_with(d="12+3", e="1 1")
        self.assertIsNone(bench.worths_of("d"))
        self.assertEqual(fields(lambda: bench.worths_of("e"))[0], "NoReading")
        bench.summed("g", UP, LEAF)
        self.assertEqual(bench.worths_of("d"), [(1, "n", 3), (2, "n", 2), (3, "n", 2), (4, "n", 1)])
        self.assertEqual(bench.sums_of("g"), completed(SIMPLE, UP, LEAF))
        bench.edit("d", 0, gone=1)
        self.assertEqual(bench.worths_of("d"), [(5, "n", 2), (6, "n", 1), (7, "n", 1), (4, "n", 1)])
        bench.unsummed("g")
        self.assertIsNone(bench.sums_of("g"))

    def test_papers(self):
        for grammar, text, words in ((SIMPLE, "1+2", ["tree", "table"]), (SIMPLE, "1 2", ["dead"]),
                                     (SAMPLES["two"], "yxy", ["tree"]), (SAMPLES["two"], "yxyxy", ["tree", "two"]),
                                     (SAMPLES["two"], "y y", ["dead"]),
                                     (SAMPLES["even"], "xx", ["tree"]), (SAMPLES["even"], "x", ["none"]),
                                     (SAMPLES["bars"], "yxyx",
                                      ["tree"] if not Reader(SAMPLES["bars"]).has_table() else ["tree", "table"]),
                                     (SAMPLES["bars"], "yxx", ["dead"]),
                                     (grammar_of("a: p a x", kinds=SAMPLES["even"].kinds()), "x", ["dead"]),
                                     (grammar_of("a: p a x", kinds=SAMPLES["even"].kinds()), "", ["none"])):
            bench = bench_with(grammar, d=text)
            papers = bench.papers_of("d")
            if grammar == SAMPLES["bars"] and words == ["dead"] and bench.document("d").stop_now() is None:
                continue
            self.assertEqual([paper[0] for _, paper in papers], words, text)
            for one, paper in papers:
                self.assertEqual(one.bars(), ())
                self.assertTrue(lets_by(one, paper))
                if not grammar.bars():
                    self.assertEqual(one, grammar)

    def test_documents_are_the_askers(self):
        bench = bench_with(d="1+2", e="1")
        bench.edit("e", 0, put="?")
        ahead = everything(bench)
        document, broken = bench.document("d"), bench.document("e")
        self.assertEqual((fields(document.undo), fields(document.redo)), (("NoStep", "undo"), ("NoStep", "redo")))
        self.assertEqual(document.entries(), [("in", "undo"), ("out", "undo"), ("in", "redo"), ("out", "redo")])
        # Its next numbers are the bench's; the last tree of a text that does not read is there, too.
        document.edit(3, put="+3")
        self.assertEqual([word[0] for word in document.words_now()], [1, 2, 3, 6, 7])
        self.assertEqual(document.change_now(), ([], [6, 7], [], [7, 8]))
        broken.edit(0, gone=1)
        self.assertEqual(list(broken.nodes_now()[1]), [5, 6])
        self.assertEqual(everything(bench), ahead)
        bench.edit("d", 3, put="+4")
        self.assertEqual([word[0] for word in bench.document("d").words_now()], [1, 2, 3, 6, 7])
        self.assertEqual(document.text_now(), "1+2+3")
        long = bench.document("d")
        self.assertEqual(fields(lambda: long.edit(0, put="1" * 196)), ("NoRoom", 201))

    def test_what_is_told_is_the_askers(self):
        bench = bench_with(d="1+2", e="1 1")
        bench.turn("g", [("label", "one", "uno")])
        asks = [bench.tongues, bench.docs, bench.spared, bench.changed, bench.entries, lambda: bench.papers_of("d"),
                lambda: bench.hangs_of("d")]
        bench.summed("g", UP, LEAF)
        asks.append(lambda: bench.worths_of("d"))
        for ask in asks:
            first = copy.deepcopy(ask())
            told = ask()
            told.clear()
            self.assertEqual(ask(), first)
        bench.papers_of("d")[1][1][1][1][0].clear()
        self.assertTrue(all(lets_by(grammar, paper) for grammar, paper in bench.papers_of("d")))
        deeds, marks, sums, layout = [("drop", "none")], list(UP), list(LEAF), {"both": ("soft", "soft")}
        bench.turn("g", deeds)
        bench.laid_out("g", layout)
        layout["both"] = ("row", "row")
        self.assertEqual(bench.layout_of("g").marks_of("both"), ("soft", "soft"))
        bench.summed("g", marks, sums)
        self.assertEqual((deeds, marks, sums), ([("drop", "none")], UP, LEAF))

    def test_equal(self):
        def made():
            bench = bench_with(d="1", e="2")
            bench.opened("s", "g", "3", still=True)
            return bench
        one, other = made(), made()
        self.assertEqual(one, other)
        other.edit("d", 0, put="4")
        self.assertNotEqual(one, other)
        one.edit("d", 0, put="44")
        one.edit("d", 0, gone=1)
        self.assertEqual(one, other)
        for change in (lambda bench: bench.summed("g", UP, LEAF), lambda bench: bench.laid_out("g",
            {"both": ("soft", "near")}), lambda bench: bench.turn("g", []), lambda bench: bench.founded("h", SIMPLE),
                       lambda bench: bench.closed("e"),
                       lambda bench: bench.opened("t", "g", "")):
            change(one)
            self.assertNotEqual(one, other)
            change(other)
            self.assertEqual(one, other)
        one.lead("s")
        self.assertNotEqual(one, other)
        one.undo()
        self.assertEqual(one, other)
        live, still = bench_with(d="1"), bench_with()
        still.opened("d", "g", "1", still=True)
        self.assertNotEqual(live, still)
        for thing in (None, 3, "Bench(3)", []):
            self.assertFalse(live == thing)
        self.assertEqual(Bench(), Bench())
        self.assertEqual((len(Bench()), repr(Bench()), Bench().entries(), Bench().changed(), Bench().spared()),
                         (0, "Bench(0)", [], [], []))

    def test_two_benches(self):
        one, other = bench_with(d="1"), Bench()
        self.assertEqual((other.tongues(), other.docs(), other.entries()), ([], [], []))
        other.founded("g", SIMPLE)
        other.opened("d", "g", "2")
        self.assertEqual((one.document("d").text_now(), other.document("d").words_now()),
                         ("1", [(1, "num", "2", 0, 2)]))

    def test_each_document_as_made_anew(self):
        bench = bench_with(d="1+ 2", e="+")
        bench.turn("g", [("drop", "none"), ("call", "num", "fig")])
        for name in bench.docs():
            anew = Document(Reader(bench.grammar_of("g", version=bench.about(name)[1])),
                            bench.document(name).text_now())
            told = bench.document(name)
            self.assertEqual(told, anew)
            self.assertEqual([word[1:] for word in told.words_now()], [word[1:] for word in anew.words_now()])
            self.assertEqual(fields(told.tree_now), fields(anew.tree_now))
            self.assertEqual(flat(*told.nodes_now()) if told.stop_now() is None else None,
                             anew.tree_now() if anew.stop_now() is None else None)
