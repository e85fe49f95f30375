"""Points 81 and 82: tables written and read again."""

import copy
import unittest
from random import Random

from tests.brute_grammars import SUMS, grammar_of
from tests.test_machine import TABLES
from tongueyard.carry import read_table, table_text
from tongueyard.errors import NoTable
from tongueyard.grammars import END
from tongueyard.tables import table_of

NAMES = ["a", "abcdefgh", "item", "on", "state", "go", "by", "done", "z", END]
WORDS = ["word", "skip", "rule", "top", "bar"]


def some_tables(seed, many):
    """Tables by their form alone, by chance."""
    chance = Random(seed)
    found = []

    def number():
        return chance.choice([0, 1, 9, 10, 99, 100, 999, 1000, 9999])

    for _ in range(many):
        states, deeds = [], []
        for _ in range(chance.randint(1, 4)):
            items = [(chance.choice(NAMES), number(), tuple(chance.choice(NAMES) for _ in range(chance.randint(0, 3))))
                     for _ in range(chance.randint(0, 3))]
            states.append(tuple(items + items[:1]))
            deeds.append({symbol: chance.choice([("go", number()), ("by", chance.choice(NAMES), number(), chance.choice(NAMES)), ("done",)])
                          for symbol in chance.sample(NAMES, chance.randint(0, 4))})
        found.append((tuple(states), tuple(deeds)))
    return found


TABLES_BY_FORM = some_tables(1, 200)


def told(text):
    try:
        return read_table(text)
    except NoTable as refusal:
        return refusal.row


def plain_rows(table):
    rows = []
    for number, (items, deeds) in enumerate(zip(*table)):
        rows.append("state %d" % number)
        rows += ["item %s %d%s" % (label, dot, "".join(" " + end for end in ahead)) for label, dot, ahead in items]
        for symbol, deed in sorted(deeds.items()):
            rows.append("on %s %s" % (symbol, " ".join(map(str, deed))))
    return rows


class Written(unittest.TestCase):
    def test_there_and_back(self):
        for table in TABLES_BY_FORM + [table for _, table in TABLES]:
            kept = copy.deepcopy(table)
            text = table_text(table)
            self.assertEqual(text, "\n".join(plain_rows(table)))
            self.assertEqual(table, kept)
            again = read_table(text)
            self.assertEqual(again, table)
            self.assertEqual((type(again), type(again[0]), type(again[1]), type(again[1][0])), (tuple, tuple, tuple, dict))

    def test_by_hand(self):
        table = table_of(grammar_of("a: p x"))
        self.assertEqual(table_text(table), "state 0\nitem . 0 .\nitem p 0 .\non a go 2\non x go 1\nstate 1\nitem p 1 .\n"
                                            "on . by p 1 a\nstate 2\nitem . 1 .\non . done")
        self.assertEqual(table_text((((),), ({},))), "state 0")
        self.assertEqual(read_table("state 0\nstate 1"), (((), ()), ({}, {})))
        self.assertEqual(read_table("state 0\nitem z 9999"), (((("z", 9999, ()),),), ({},)))

    def test_each_beginning_that_ends_with_a_row(self):
        for table in TABLES_BY_FORM:
            rows = plain_rows(table)
            for many in range(1, len(rows)):
                text = "\n".join(rows[:many])
                self.assertEqual(table_text(read_table(text)), text)


class Bent(unittest.TestCase):
    def check(self, text):
        """A text is read just where it is the writing of what comes, else refused with its first wrong row."""
        found = told(text)
        if isinstance(found, tuple):
            self.assertEqual(table_text(found), text)
            return
        rows = text.split("\n")
        self.assertTrue(0 <= found < len(rows))
        if found > 0:
            ahead = "\n".join(rows[:found])
            self.assertEqual(table_text(read_table(ahead)), ahead)
        self.assertEqual(told("\n".join(rows[:found + 1])), found)

    def test_a_sign_otherwise_left_out_or_put_in(self):
        for table in TABLES_BY_FORM[:25] + [table_of(SUMS)]:
            text = table_text(table)
            for at in range(len(text)):
                self.check(text[:at] + text[at + 1:])
                for sign in " \n0a.A-":
                    self.check(text[:at] + sign + text[at:])
                    self.check(text[:at] + sign + text[at + 1:])

    def test_a_row_left_out_put_in_or_twice(self):
        for table in TABLES_BY_FORM:
            rows = plain_rows(table)
            for at in range(len(rows)):
                self.check("\n".join(rows[:at] + rows[at + 1:]))
                self.check("\n".join(rows[:at + 1] + rows[at:]))
                for row in ("", "state 0", "state 1", "item a 0", "on a done", "on z go 0", "on . done", " ", "state"):
                    self.check("\n".join(rows[:at] + [row] + rows[at:]))
        self.assertEqual(told("state 0\nstate 0"), 1)
        self.assertEqual(told("state 0\nstate 2"), 1)
        self.assertEqual(told("state 0\nitem a 0\nitem a 0"), (((("a", 0, ()),) * 2,), ({},)))
        self.assertEqual(told("state 0\non a done\non a done"), 2)
        self.assertEqual(told("state 0\non b done\non a done"), 2)
        self.assertEqual(told("state 0\non a done\nitem a 0"), 2)
        self.assertEqual(told("item a 0"), 0)
        self.assertEqual(told("on a done"), 0)
        self.assertEqual(told("state 1"), 0)

    def test_texts_that_are_none(self):
        for text in ("", "\n", " ", "state", "state 00", "state  0", " state 0", "State 0", "state 0 ", "state 0\r", "state -0", "state +0"):
            self.assertEqual(told(text), 0, text)
        for row in ("", " ", "item", "item a", "item a x", "item a 01", "item a 00", "item a 10000", "item a -1", "item a 0 ", "item a  0",
                    "item  0", "item A 0", "item a 0 B", "item a 0 ..", "item abcdefghi 0", "item .a 0", "on", "on a", "on a go", "on a go 01",
                    "on a go 10000", "on a go 1 ", "on a go x", "on a by b 1", "on a by b 1 c d", "on a by b x c", "on a by B 1 c", "on a by b 1 C",
                    "on a done ", "on a done done", "on  done", "on A done", "on a Done", "done", "on a", "item a 1\t", "item a \u0661",
                    "item a 1 2", "on a go \u0661", "state 1 1", "state 01", "state 2", "on word done", "item skip 0", "item a 0 rule",
                    "on a by top 1 a", "on a by a 1 bar", "state a", "on a goes 1"):
            self.assertEqual(told("state 0\n" + row), 1, row)
            self.assertEqual(told("state 0\nitem a 0 . b\n" + row + "\nstate 1"), 2, row)
        for word in WORDS:
            self.assertEqual(told("state 0\nitem %s 0" % word), 1)
        self.assertEqual(told("state 0\n"), 1)
        self.assertEqual(told("state 0\nitem a 0\n\nstate 1"), 2)

    def test_long_ones(self):
        rows = []
        for number in range(3000):
            rows += ["state %d" % number, "item a %d ." % number, "on . done"]
        text = "\n".join(rows)
        self.assertEqual(table_text(read_table(text)), text)
        self.assertEqual(told(text + "\nstate 3001"), 9000)
