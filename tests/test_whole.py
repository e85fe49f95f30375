"""Points 2, 3 and 4, over the whole program."""

import copy
import unittest

from tests.brute_grammars import BARRED, NAMED, SUMS, grammar_of, some_grammars
from tests.brute_reading import READ, all_rows, slow_shapes
from tests.test_interface import FUNCTIONS, NAMED_ONES, SIGNED, names_and_arguments
from tongueyard import errors
from tongueyard.bars import parted
from tongueyard.bench import Bench
from tongueyard.bridges import Bridge, Step, led_paper
from tongueyard.carry import table_text
from tongueyard.charts import Chart
from tongueyard.desk import Desk
from tongueyard.documents import Document
from tongueyard.errors import Clash, Many, NoGiven, NoMend, NoReading, Ringed, RoundWorths, Stop, TooMany, YardError
from tongueyard.goingon import going_on
from tongueyard.grammars import Grammar
from tongueyard.gtexts import META, show_grammar
from tongueyard.hinders import found_step
from tongueyard.judge import lets_by
from tongueyard.known import known_paper
from tongueyard.layouts import Layout
from tongueyard.ledger import Ledger
from tongueyard.logs import log_of
from tongueyard.machine import Machine, run_kinds
from tongueyard.mends import fewest, mend, mend_paper, mended
from tongueyard.mendtables import nofewer_paper
from tongueyard.printing import packed, printed
from tongueyard.readers import Reader
from tongueyard.reading import dead_paper, only_shape, reading_paper
from tongueyard.rounds import relations, round_paper
from tongueyard.tables import table_of
from tongueyard.tallies import completed
from tongueyard.tallytexts import show_tally
from tongueyard.trees import is_shape, numbered, parts_of
from tongueyard.treetexts import show_tree
from tongueyard.wordtables import word_paper, word_table
from tongueyard.worths import why, worths

MARKS = [("n", "up", "number", ("sum", "term")), ("d", "down", "number", ("term",))]
SUMS_OF = [("leaf", 0, "n", ("long", ("word", 1))), ("one", 1, "d", ("number", 1)), ("both", 3, "d", ("number", 2))]
TREE = (("both", "one", "leaf", "leaf"), (("num", "12"), ("plus", "+"), ("num", "3")))
ROW = ["num", "plus", "num"]
BARS = BARRED["sums"]
AMBIGUOUS = READ["amb"]


def tally():
    return completed(SUMS, MARKS, SUMS_OF)


def step():
    return Step(SUMS, SUMS, {name: name for name in ("sum", "term", "num", "plus")},
                {label: (("node", label),
                         ) + tuple(("part",
                                    at + 1) for at in range(len(SUMS.row_of(label)))) for label in SUMS.labels()})


def samples():
    """For each function of the interface arguments, made anew, by place and by name."""
    kinds, pattern, table = SUMS.kinds(), ("or", ("signs", "ab"), ("then", ("signs", "a"),
        ("signs", "b"))), word_table(SUMS.kinds())
    told_table, orders = table_of(SUMS), round_paper(SUMS, tally())
    grammar_text = show_grammar(SUMS)
    return {
        "is_name": [["a"]], "fresh": ["sum", ["sumaa"]], "is_pattern": [pattern], "spells": [pattern, "ab"],
            "spells_none": [pattern], "least_spelled": [pattern], "only_text": [pattern],
        "word_table": [kinds], "state_of": [table, "1"], "least_row": [table, 1], "least_apart": [table, 0, 1],
            "least_word": [table, "num"], "unlike_words": [kinds, kinds[:1]],
            "lost_word": [table, "num", table, "plus"],
        "beyond": [pattern, ("signs", "a")], "word_paper": [kinds], "first_piece": [table, "1+", 0],
            "pieces_of": [table, "1+ ?"], "cut_words": [kinds, "1+ ?"], "is_good": [table, "num", "1"],
            "gap_holds": [kinds, "1", " ", "2"],
        "gap_breaks": [kinds, "1", "", "2"], "is_shape": [SUMS, TREE[0], list(ROW)], "is_tree": [SUMS, [TREE]],
            "need_tree": [SUMS, TREE], "spelled_by": [SUMS, TREE[0]], "nodes_of": [SUMS, TREE[0]],
            "parts_of": [SUMS, TREE[0]],
        "part_at": [SUMS, TREE, 1], "put_at": [SUMS, TREE, 3, (("none",), ())], "flat": list(numbered(SUMS, TREE)),
            "numbered": [SUMS, TREE], "least": [SUMS], "stands": [SUMS], "begins": [SUMS], "follows": [SUMS],
        "can_be_empty": [SUMS], "ring": [NAMED["ring"]], "known_paper": [SUMS], "parted": [BARS],
            "show_grammar": [SUMS], "show_pattern": [pattern], "read_grammar": [grammar_text],
            "read_pattern": ["[ab]*"],
        "is_worth": ["number", [1]], "due_sums": [SUMS, list(MARKS)], "is_tally": [SUMS, [tally()]],
            "tally_of": [SUMS, list(MARKS), list(tally()[1])], "completed": [SUMS, list(MARKS), list(SUMS_OF)],
            "parted_tally": [BARS, completed(BARS, [("n", "up", "number", ("a",))], [])],
        "log_of": [SUMS, TREE[0]], "shape_of_log": [SUMS, log_of(SUMS, TREE[0])], "lets_by": [SUMS, ["tree"]],
            "word_fault": [kinds, table, word_paper(kinds)], "words_hold": [SUMS, ("words", table, word_paper(kinds))],
        "mends_hold": [SUMS, mend_paper(SUMS, ROW)], "worths_hold": [SUMS, orders],
            "known_holds": [SUMS, known_paper(SUMS)], "led_holds": [SUMS, led_paper(step(), TREE)],
            "nth_shape": [AMBIGUOUS, ["y", "x", "y"], 0],
        "place_of_shape": [AMBIGUOUS, ["y", "x", "y"], ("p", "q", "q")], "only_shape": [SUMS, list(ROW)],
            "reading_paper": [SUMS, ["num", "num"]], "dead_paper": [SUMS, ["num", "num"]],
            "going_on": [SUMS, ["num", "plus"]],
        "twice": [SUMS], "begins_of": [SUMS, ("term", "num"), ["plus"]], "split_states": [SUMS],
            "merged_states": [SUMS], "table_of": [SUMS], "why_ahead": [SUMS, *reduced(told_table)],
            "run_kinds": [told_table, list(ROW)],
        "table_text": [told_table], "read_table": [table_text(told_table)],
            "mended": [list(ROW), [("keep",), ("drop",), ("put", "plus"), ("keep",)]], "fewest": [SUMS, ["num", "num"]],
            "mend": [SUMS, ["num", "num"]],
        "mend_paper": [SUMS, ["num", "num"]], "lows": [SUMS, ["num", "num"]], "nofewer_paper": [SUMS, ["num", "num"]],
            "printed": [Layout(SUMS, {"both": ("soft", "soft")}), TREE], "packed": [SUMS, TREE],
        "printed_spans": [Layout(SUMS, {}), TREE], "worths": [SUMS, tally(), TREE],
            "why": [SUMS, tally(), TREE, 0, "n"], "hangs_on": [SUMS, tally(), TREE, 0, "n"],
            "relations": [SUMS, tally()], "round_paper": [SUMS, tally()],
        "shape_of_rows": [relations(SUMS, tally())], "one_walk": [SUMS, tally()], "step_fault": [step()],
            "led": [step(), TREE], "led_paper": [step(), TREE], "turned": [step()], "hindered": [step()],
            "found_step": [SUMS, SUMS],
        "done": [SUMS, ("rule", 0, "new", [("nn", ("sum",))])], "turn": [SUMS,
            [("label", "one", "uno"), ("rule", 0, "new", [("nn", ("sum",))])]],
            "led_tally": [Bridge([step()]), tally()], "show_tree": [TREE, parts_of(SUMS, TREE[0])],
        "read_tree": [SUMS, show_tree(TREE, parts_of(SUMS, TREE[0]))], "show_tally": [tally()],
            "sums_read": [show_tally(tally())], "read_tally": [SUMS, show_tally(tally())],
            "show_deed": [("rule", 0, "new", [("nn", ("sum",))])],
        "read_deed": ["rule 0 new nn: sum | oo:"], "desk_of": [["grammar g " + grammar_text, "open d g 1"]],
            "desk_from": ["tongues\n"],
    }


def reduced(table):
    for number, items in enumerate(table[0]):
        for label, dot, ahead in items:
            if ahead and label == "leaf" and dot == 1:
                return number, label, ahead[0]
    return None


def files():
    found = {name: file for file, functions in FUNCTIONS.items() for name in functions}
    found.update({name: file for file, name, _, _, _ in NAMED_ONES})
    found.update({name: file for file, row in SIGNED.items() for name,
                  _ in names_and_arguments(row) if name[0].islower()})
    return found


def plain(thing):
    """A thing made comparable by all that is in it."""
    if isinstance(thing, (list, tuple)):
        return type(thing).__name__, [plain(part) for part in thing]
    if isinstance(thing, dict):
        return "dict", [(plain(key), plain(part)) for key, part in thing.items()]
    if isinstance(thing, Step):
        return "step", plain((thing.old(), thing.new(), thing.names(), thing.templates()))
    if isinstance(thing, Bridge):
        return "bridge", plain(thing.steps())
    if isinstance(thing, Grammar):
        return "grammar", plain((thing.kinds(), thing.rules(), thing.begin(), thing.bars()))
    if isinstance(thing, Layout):
        return "layout", plain([thing.marks_of(label) for label in thing.grammar.labels()])
    if isinstance(thing, Desk):
        return "desk", thing.log()
    return (type(thing).__name__, thing) if isinstance(thing, (int, str, bool, type(None))) else type(thing).__name__


def spoil(thing):
    """Changes all lists and dicts in a thing."""
    if isinstance(thing, (list, tuple)):
        for part in thing:
            spoil(part)
    if isinstance(thing, dict):
        for part in thing.values():
            spoil(part)
        thing.clear()
        thing["spoiled"] = True
    if isinstance(thing, list):
        thing.append("spoiled")


class Functions(unittest.TestCase):
    def call(self, name, arguments):
        function = getattr(__import__("tongueyard." + files()[name], fromlist=[name]), name)
        return function(*arguments)

    def test_each_is_there(self):
        self.assertEqual(sorted(samples()), sorted(files()))

    def test_handed_in_and_told(self):
        for name in samples():
            arguments = samples()[name]
            held = plain(arguments)
            first = self.call(name, arguments)
            wanted = plain(first)
            self.assertEqual(plain(arguments), held, name)
            # What is told is the asker's own, and the same asked again is told alike.
            spoil(first)
            self.assertEqual(plain(arguments), held, name)
            self.assertEqual(plain(self.call(name, arguments)), wanted, name)
            # What was handed in may be changed behind it.
            again = self.call(name, arguments)
            spoil(arguments)
            self.assertEqual(plain(again), wanted, name)
            self.assertEqual(plain(self.call(name, samples()[name])), wanted, name)


class Objects(unittest.TestCase):
    def made(self):
        """Objects, each with the lists and dicts of which it was made, and all that can be asked of it."""
        kinds, rules, bars = SUMS.kinds(), SUMS.rules(), ()
        grammar = Grammar(kinds, rules, bars=bars)
        marks = {"both": ("soft", "soft")}
        layout = Layout(SUMS, marks)
        names, templates = step().names(), step().templates()
        one = Step(SUMS, SUMS, names, templates)
        steps = [step()]
        bridge = Bridge(steps)
        row = list(ROW)
        chart = Chart(SUMS, row)
        table = table_of(SUMS)
        machine = Machine(table)
        machine.feed("num")
        ledger, tree = Ledger(SUMS, tally()), numbered(SUMS, TREE)
        ledger.laid(tree)
        document = Document(Reader(SUMS), "1+2")
        edits = [(0, 0, "3")]
        document.edits(edits)
        broken = Document(Reader(SUMS), "1 1")
        bench, deeds, told_marks, told_sums, layouts, rows = Bench(), [("label", "one", "uno"),
            ("rule", 0, "new", [("nn", ())])], list(MARKS), list(SUMS_OF), {"both": ("soft", "soft")}, [(0, 0, "1")]
        bench.founded("g", SUMS)
        bench.opened("d", "g", "1+2")
        bench.edits("d", rows)
        bench.summed("g", told_marks, told_sums)
        bench.laid_out("g", layouts)
        bench.turn("g", deeds)
        desk = Desk()
        desk.say("grammar g " + META)
        return [
            ([kinds, rules], [grammar.kinds, grammar.rules, grammar.labels, grammar.bars,
                              lambda: grammar.labels_of("sum"), lambda: grammar.row_of("both")]),
            ([marks], [lambda: [layout.marks_of(label) for label in SUMS.labels()]]),
            ([names, templates], [one.names, one.templates, one.steps, lambda: one.leads("one")]),
                ([steps], [bridge.steps, lambda: bridge.straight("one")]),
            ([row], [chart.facts, chart.bad, lambda: chart.next_kinds(3), chart.how_many]),
                ([*table[1]], [machine.may, machine.stand, machine.log, machine.taken, machine.whole]),
            ([tree], [ledger.worths_now, lambda: ledger.worth_of(0, "n")]),
            ([edits], [document.words_now, document.nodes_now, document.change_now, document.entries, document.tree_now,
                       document.stop_now, lambda: document.cut_again(0, put="1")]),
            ([], [broken.stop_now, broken.words_now]),
            ([deeds, told_marks, told_sums, layouts, rows], [bench.tongues, bench.docs, bench.spared, bench.changed,
                bench.entries, lambda: bench.worths_of("d"), lambda: bench.hangs_of("d"), lambda: bench.papers_of("d"),
                    lambda: bench.about("d"),
             lambda: bench.grammar_of("g"), lambda: bench.sums_of("g"), lambda: bench.layout_of("g"),
                 lambda: bench.bridge_of("g", 1), lambda: bench.document("d").words_now(),
                     lambda: bench.document("d").nodes_now()]),
            ([], [desk.log, desk.entries, desk.log_text]), ([], [lambda: parted(BARS).plain(),
                lambda: parted(BARS).led_in(("p", "r", "r"))]),
        ]

    def test_handed_in_and_told(self):
        for handed, asks in self.made():
            wanted = [plain(ask()) for ask in asks]
            for thing in handed:
                spoil(thing)
            for ask in asks:
                spoil(ask())
            self.assertEqual([plain(ask()) for ask in asks], wanted)

    def test_what_is_handed_in_stays(self):
        first, second = self.made(), self.made()
        for (handed, asks), (other, _) in zip(first, second):
            for ask in asks:
                ask()
            self.assertEqual(plain(handed), plain(other))


class Refusals(unittest.TestCase):
    def test_lists_of_refusals_are_the_askers(self):
        document, machine = Document(Reader(SUMS), "1 1"), Machine(table_of(SUMS))
        machine.feed("num")
        for call, kind in ((document.tree_now, NoReading), (lambda: only_shape(SUMS, ["num", "num"]), NoReading),
                           (lambda: machine.feed("num"), Stop), (lambda: going_on(SUMS, ["num", "num"]), NoReading)):
            found = []
            for _ in range(2):
                with self.assertRaises(kind) as caught:
                    call()
                found.append(list(caught.exception.may_kinds))
                caught.exception.may_kinds.clear()
            self.assertEqual(found, [[".", "plus"], [".", "plus"]])

    def test_each_is_a_refusal_with_its_fields(self):
        names = [name for name in vars(errors) if name[0].isupper() and name != "YardError"]
        self.assertEqual(len(names), 42)
        for name in names:
            self.assertTrue(issubclass(vars(errors)[name], YardError))


class Promise(unittest.TestCase):
    """Point 4 over grammars by chance and all short rows."""

    def samples(self):
        return list(NAMED.values()) + list(READ.values()) + some_grammars(77, 45)

    def outcome(self, grammar, row):
        try:
            return "one", only_shape(grammar, row)
        except Many as found:
            return "many", (found.one, found.other, Chart(grammar, row).how_many())
        except Ringed as found:
            return "ring", found.name
        except NoReading as found:
            return "none", (found.at, found.may_kinds)

    def test_just_one_is_told_of_each_row(self):
        seen = {}
        for grammar in self.samples():
            for row in all_rows(3, ["num", "plus"] if grammar is SUMS else ["x", "y"]):
                word, told = self.outcome(grammar, row)
                seen[word] = seen.get(word, 0) + 1
                shapes = slow_shapes(grammar, row)
                self.assertEqual(word, "ring" if shapes is None else ["none",
                    "one"][len(shapes)] if len(shapes) < 2 else "many")
                if word == "one":
                    self.assertEqual(told, shapes[0])
                elif word == "many":
                    self.assertEqual(told, (shapes[0], shapes[1], len(shapes)))
                elif word == "none":
                    self.assertTrue(lets_by(grammar, reading_paper(grammar, row)))
                    if told[0] < len(row):
                        self.assertTrue(lets_by(grammar, dead_paper(grammar, row[:told[0] + 1])))
                if word != "none":
                    self.assertIsNone(reading_paper(grammar, row))
        self.assertTrue(all(seen[word] > 20 for word in ("one", "many", "none", "ring")), seen)

    def test_a_table_or_a_clash(self):
        words = []
        for grammar in self.samples():
            try:
                table = table_of(grammar)
            except Clash as found:
                words.append("clash")
                self.assertTrue(lets_by(grammar, ("clash", found.one, found.other, found.at)))
                continue
            except TooMany:
                words.append("many")
                continue
            words.append("table")
            self.assertTrue(lets_by(grammar, ("table", table)))
            for row in all_rows(3, ["num", "plus"] if grammar is SUMS else ["x", "y"]):
                word, told = self.outcome(grammar, row)
                try:
                    self.assertEqual((word, told), ("one", run_kinds(table, row)))
                except Stop as found:
                    self.assertEqual((word, told), ("none", (found.at, found.may_kinds)))
        self.assertGreater(words.count("table"), 15)
        self.assertGreater(words.count("clash"), 15)

    def test_the_fewest_deeds(self):
        for grammar in self.samples()[:30]:
            for row in all_rows(2, ["num", "plus"] if grammar is SUMS else ["x", "y"]):
                try:
                    many = fewest(grammar, row)
                except NoMend:
                    continue
                deeds, paper, other = mend(grammar, row), mend_paper(grammar, row), nofewer_paper(grammar, row)
                self.assertEqual(len([deed for deed in deeds if deed[0] != "keep"]), many)
                self.assertTrue(is_shape(grammar, paper[3], mended(row, deeds)))
                self.assertTrue(lets_by(grammar, paper) and lets_by(grammar, other) and other[2] == many)
                self.assertFalse(lets_by(grammar, other[:2] + (many + 1,) + other[3:]))

    def test_prints_are_cut_to_their_words_and_worths_keep_every_sum(self):
        document = Document(Reader(SUMS))
        for text in ("1+2", "+", "1 + 22 +", "", "3"):
            document.edit(0, gone=len(document), put=text)
            tree = document.tree_now()
            for told in (packed(SUMS, tree), printed(Layout(SUMS, {"both": ("soft", "blank")}), tree)):
                self.assertEqual(Document(Reader(SUMS), told).tree_now(), tree)
            rows = worths(SUMS, tally(), tree)
            self.assertEqual([row[:2] for row in rows], [(at, name) for at,
                                                         label in enumerate(tree[0]) for name in ("n", "d")
                                                        if name == "n" or SUMS.rule_of(label) == "term"])
            self.assertTrue(lets_by(SUMS, ("worth", tally(), tree, (), tuple(why(SUMS, tally(), tree, 0, "n")))))

    def test_no_two_papers_against_one_another(self):
        for grammar in self.samples()[:25]:
            for row in all_rows(2, ["num", "plus"] if grammar is SUMS else ["x", "y"]):
                word, told = self.outcome(grammar, row)
                if word == "one":
                    self.assertTrue(lets_by(grammar, ("tree", tuple(row), told)))
                    self.assertFalse(lets_by(grammar, ("none", tuple(row), Chart(grammar, row).facts())))
                    self.assertFalse(lets_by(grammar, ("dead", tuple(row), Chart(grammar, row).facts())))

    def test_led_or_the_first_thing_that_can_not_be(self):
        grammars = list(NAMED.values())
        for old in grammars[:6]:
            for new in grammars[:6]:
                found = found_step(old, new)
                for row in all_rows(2, ["num", "plus"] if old is SUMS else ["x", "y"]):
                    word, shape = self.outcome(old, row)
                    if word == "one":
                        texts = {name: pattern[1][0] if pattern[0] == "signs" else "1" for name, pattern,
                                 _ in old.kinds()}
                        tree = shape, tuple((kind, texts[kind]) for kind in row)
                        try:
                            self.assertTrue(lets_by(old, led_paper(found, tree)))
                        except errors.NoLead as refusal:
                            self.assertEqual(refusal.step, 0)

    def test_worths_or_a_ring(self):
        grammar = grammar_of("a: p b\n b: r y | s b")
        marks = [("n", "down", "number", ("b",)), ("m", "up", "number", ("b",))]
        ring = completed(grammar, marks, [("p", 1, "n", ("at", 1, "m")), ("r", 0, "m", ("at", 0, "n")),
                                          ("s", 1, "n", ("at", 0, "n"))])
        with self.assertRaises(RoundWorths):
            worths(grammar, ring, (("p", "s", "r"), (("y", "y"),)))
        with self.assertRaises(NoGiven):
            worths(grammar, ring, (("r",), (("y", "y"),)))
        self.assertEqual(round_paper(grammar, ring)[0], "round")
        self.assertTrue(lets_by(grammar, copy.deepcopy(round_paper(grammar, ring))))
