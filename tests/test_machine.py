"""Points 77 to 79: machines and runs, against plain runs and a slow search for texts."""

import copy
import unittest
from random import Random

from tests.brute_grammars import NAMED, SUMS, grammar_of, some_grammars
from tests.brute_lr import called_by, plain_run
from tests.brute_reading import READ, all_rows, begun_by, slow_shapes, texts_up_to
from tests.test_tables import SPLIT
from tongueyard.charts import Chart
from tongueyard.errors import Clash, NoPlace, Stop, TooMany
from tongueyard.grammars import END
from tongueyard.judge import lets_by
from tongueyard.logs import log_of, shape_of_log
from tongueyard.machine import Machine, run_kinds
from tongueyard.tables import table_of


def with_tables(grammars):
    found = []
    for grammar in grammars:
        try:
            found.append((grammar, table_of(grammar)))
        except (Clash, TooMany):
            pass
    return found


TABLES = with_tables(list(NAMED.values()) + list(READ.values()) + some_grammars(56, 120) + [SPLIT])
SUM_TABLE = table_of(SUMS)


def refused(call, *arguments):
    try:
        return call(*arguments)
    except Stop as stop:
        return "Stop", stop.at, stop.may_kinds


def kinds_of(grammar):
    return [name for name, _, _ in grammar.kinds()]


def all_told(machine):
    return (machine.stand(), machine.log(), machine.taken(), machine.may(), len(machine), repr(machine), refused(machine.whole))


class Runs(unittest.TestCase):
    def test_against_charts_and_all_shapes(self):
        self.assertGreater(len(TABLES), 50)
        for grammar, table in TABLES:
            for row in all_rows(4, kinds_of(grammar)[:2]):
                chart = Chart(grammar, list(row))
                told = refused(run_kinds, table, list(row))
                if chart.reads():
                    self.assertEqual([told], slow_shapes(grammar, row))
                    self.assertEqual(log_of(grammar, told), plain_run(table, row)[1])
                else:
                    self.assertEqual(told, ("Stop", chart.bad(), chart.next_kinds(chart.bad())))
                    self.assertEqual(plain_run(table, row)[0], "stop")

    def test_may_is_exact_against_a_slow_search(self):
        for grammar, table in TABLES[:40]:
            texts = texts_up_to(grammar, 8)
            for row in all_rows(2, kinds_of(grammar)[:2]):
                told = refused(run_kinds, table, list(row))
                if told[0] == "Stop":
                    self.assertEqual(told[2], begun_by(grammar, texts, row[:told[1]]))

    def test_machines_one_by_one(self):
        for grammar, table in TABLES:
            for row in all_rows(3, kinds_of(grammar)[:2]):
                machine = Machine(table)
                self.assertEqual(all_told(machine)[:3], ([0], [], []))
                for at, kind in enumerate(row):
                    ahead = all_told(machine)
                    self.assertEqual((len(machine), machine.taken(), repr(machine)), (at, list(row[:at]), f"Machine({list(row[:at])!r})"))
                    may = machine.may()
                    self.assertEqual(all_told(machine), ahead)
                    for other in ("", END, "z", "a", "b", "p", "word", "x y"):
                        if other not in kinds_of(grammar):
                            self.assertEqual(refused(machine.feed, other), ("Stop", at, may))
                            self.assertEqual(all_told(machine), ahead)
                    if kind not in may:
                        self.assertEqual(refused(machine.feed, kind), ("Stop", at, may))
                        self.assertEqual(all_told(machine), ahead)
                        break
                    self.assertIsNone(machine.feed(kind))
                    self.check_run(grammar, table, machine)
                whole = refused(machine.whole)
                self.assertEqual(END in machine.may(), whole[:1] != ("Stop",))
                if END in machine.may():
                    self.assertEqual(shape_of_log(grammar, plain_run(table, machine.taken())[1]), whole)

    def check_run(self, grammar, table, machine):
        """The log so far is the beginning of that of each text that goes on so."""
        log = machine.log()
        self.assertEqual([deed for deed in log if deed == ""], [""] * len(machine))
        self.assertEqual(log[-1], "")
        # The stand is that of the gos over the pieces that the log has left.
        pieces = []
        for deed in log:
            if deed == "":
                pieces.append("")
            else:
                del pieces[len(pieces) - len(grammar.row_of(deed)):]
                pieces.append(grammar.rule_of(deed))
        self.assertEqual(len(machine.stand()), len(pieces) + 1)
        states = machine.stand()
        for one, other, piece in zip(states, states[1:], pieces):
            gos = [symbol for symbol, deed in table[1][one].items() if deed == ("go", other)]
            self.assertTrue(piece in gos or (piece == "" and any(grammar.is_kind(symbol) for symbol in gos)))

    def test_by_hand(self):
        machine = Machine(SUM_TABLE)
        self.assertEqual(machine.may(), [END, "num", "plus"])
        machine.feed("plus")
        self.assertEqual(machine.log(), ["none", "one", ""])
        machine.feed("num")
        self.assertEqual(machine.log(), ["none", "one", "", ""])
        self.assertEqual((machine.taken(), len(machine), repr(machine)), (["plus", "num"], 2, "Machine(['plus', 'num'])"))
        self.assertEqual(machine.whole(), ("both", "one", "none", "leaf"))
        self.assertEqual(refused(machine.feed, "num"), ("Stop", 2, [END, "plus"]))
        self.assertEqual(refused(machine.feed, "gap"), ("Stop", 2, [END, "plus"]))
        self.assertEqual(refused(machine.feed, "term"), ("Stop", 2, [END, "plus"]))
        self.assertEqual(refused(run_kinds, SUM_TABLE, ["num", "num", "z"]), ("Stop", 1, [END, "plus"]))
        self.assertEqual(run_kinds(SUM_TABLE, []), ("one", "none"))

    def test_without_a_text(self):
        table = table_of(READ["none"])
        machine = Machine(table)
        for told in (refused(machine.feed, "x"), refused(machine.whole), refused(run_kinds, table, ["x"])):
            self.assertEqual(told, ("Stop", 0, []))
        self.assertEqual((machine.may(), machine.stand(), machine.log()), ([], [0], []))

    def test_aheads_that_are_more(self):
        # Merged states have aheads of other surroundings, which may does not tell.
        grammar = grammar_of("a: p x b x | q y b y\n b: r x x")
        table = table_of(grammar)
        state = [items for items in table[0] if items[0][:2] == ("r", 2)]
        self.assertEqual(state[0][0][2], ("x", "y"))
        self.assertEqual(refused(run_kinds, table, ["x", "x", "x", "y"]), ("Stop", 3, ["x"]))
        self.assertEqual(refused(run_kinds, table, ["y", "x", "x", "x"]), ("Stop", 3, ["y"]))
        machine = Machine(table)
        for kind in ("x", "x", "x"):
            machine.feed(kind)
        self.assertEqual(machine.may(), ["x"])

    def test_long_rows(self):
        row = ["num", "plus"] * 2000 + ["num"]
        self.assertEqual(len(run_kinds(SUM_TABLE, row)), 2001 * 2)
        table = table_of(READ["right"])
        self.assertEqual(run_kinds(table, ["x"] * 3000), ("p",) * 2999 + ("q",))

    def test_other_tables_that_hold(self):
        for grammar, table in TABLES[:30]:
            many = len(table[0])
            turned = called_by(table, [0] + list(range(many - 1, 0, -1)))
            for row in all_rows(3, kinds_of(grammar)[:2]):
                self.assertEqual(refused(run_kinds, turned, list(row)), refused(run_kinds, table, list(row)))


class Kept(unittest.TestCase):
    def test_a_table_changed_behind_it(self):
        table = copy.deepcopy(SUM_TABLE)
        machine = Machine(table)
        machine.feed("num")
        wanted = all_told(machine)
        for deeds in table[1]:
            deeds.clear()
        self.assertEqual(all_told(machine), wanted)
        machine.feed("plus")
        self.assertEqual(machine.whole(), ("both", "one", "leaf", "none"))
        self.assertEqual(machine.twin().whole(), ("both", "one", "leaf", "none"))

    def test_what_is_told_is_the_askers_own(self):
        machine = Machine(SUM_TABLE)
        machine.feed("num")
        wanted = all_told(machine)
        for told in (machine.stand(), machine.log(), machine.taken(), machine.may()):
            self.assertIs(type(told), list)
            told.append("z")
        self.assertEqual(all_told(machine), wanted)

    def test_kinds_handed_in_stay(self):
        kinds = ["num", "plus"]
        table = copy.deepcopy(SUM_TABLE)
        run_kinds(table, kinds)
        self.assertEqual((kinds, table), (["num", "plus"], SUM_TABLE))


class Back(unittest.TestCase):
    def test_back_and_on_by_chance(self):
        chance = Random(8)
        for grammar, table in TABLES:
            machine = Machine(table)
            told = [all_told(machine)]
            for _ in range(40):
                may = [kind for kind in machine.may() if kind != END]
                if may and chance.random() < 0.7:
                    machine.feed(chance.choice(may))
                    told.append(all_told(machine))
                else:
                    many = chance.randint(0, len(machine))
                    self.assertIsNone(machine.back(many))
                    del told[many + 1:]
                self.assertEqual(all_told(machine), told[-1])

    def test_no_place(self):
        machine = Machine(SUM_TABLE)
        for kind in ("num", "plus", "num"):
            machine.feed(kind)
        wanted = all_told(machine)
        for place in (-1, 4, 10 ** 20, -10 ** 20):
            with self.assertRaises(NoPlace) as caught:
                machine.back(place)
            self.assertEqual(caught.exception.place, place)
            self.assertEqual(all_told(machine), wanted)
        machine.back(3)
        self.assertEqual(all_told(machine), wanted)
        machine.back(0)
        self.assertEqual(all_told(machine), all_told(Machine(SUM_TABLE)))

    def test_twins(self):
        machine = Machine(SUM_TABLE)
        machine.feed("num")
        twin = machine.twin()
        self.assertEqual(all_told(twin), all_told(machine))
        self.assertTrue(twin == machine)
        wanted = all_told(machine)
        twin.feed("plus")
        self.assertEqual(all_told(machine), wanted)
        self.assertFalse(twin == machine)
        machine.back(0)
        self.assertEqual(twin.taken(), ["num", "plus"])
        twin.back(1)
        self.assertEqual(all_told(twin), wanted)

    def test_equal(self):
        one, other = Machine(SUM_TABLE), Machine(copy.deepcopy(SUM_TABLE))
        self.assertTrue(one == other and not one != other)
        one.feed("num")
        self.assertFalse(one == other)
        other.feed("plus")
        self.assertFalse(one == other)
        other.back(0)
        other.feed("num")
        self.assertTrue(one == other)
        # The same deeds and kinds, but another table.
        twice = (SUM_TABLE[0] + SUM_TABLE[0][1:2], SUM_TABLE[1] + SUM_TABLE[1][1:2])
        for table in (twice, called_by(SUM_TABLE, [0] + list(range(len(SUM_TABLE[0]) - 1, 0, -1)))):
            third = Machine(table)
            third.feed("num")
            self.assertFalse(one == third)
        turned = tuple(tuple((label, dot, ahead[::-1]) for label, dot, ahead in state) for state in SUM_TABLE[0])
        third = Machine((turned, SUM_TABLE[1]))
        third.feed("num")
        self.assertFalse(one == third)
        # The same states, but another one of two alike is gone to.
        double = SUM_TABLE[0] + (SUM_TABLE[0][1],), SUM_TABLE[1] + (SUM_TABLE[1][1],)
        other = copy.deepcopy(double)
        for deeds in other[1]:
            deeds.update({symbol: ("go", len(SUM_TABLE[0])) for symbol, deed in deeds.items() if deed == ("go", 1)})
        self.assertTrue(lets_by(SUMS, ("table", double)) and lets_by(SUMS, ("table", other)))
        self.assertFalse(Machine(double) == Machine(other))
        for thing in (None, ["num"], SUM_TABLE, "Machine(['num'])", 1):
            self.assertFalse(one == thing)
