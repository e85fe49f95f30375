"""Point 49: the judge of tables, against a plain one and with each of its conditions broken alone."""

import unittest
from random import Random

from tests.bent import check_form, others, parts_of, with_part
from tests.brute_grammars import NAMED, SUMS, grammar_of, some_grammars
from tests.brute_lr import Plain, called_by, plain_holds
from tests.brute_reading import READ
from tongueyard.errors import Clash, TooMany
from tongueyard.grammars import END
from tongueyard.judge import lets_by
from tongueyard.tables import table_of

SAMPLES = list(NAMED.values()) + list(READ.values()) + some_grammars(47, 150)


def tables():
    found = []
    for grammar in SAMPLES:
        try:
            found.append((grammar, table_of(grammar)))
        except (Clash, TooMany):
            pass
    return found


TABLES = tables()


def holds(grammar, table):
    return lets_by(grammar, ("table", table))


def with_deed(table, number, symbol, deed):
    """The table with another deed of a state, or without it."""
    deeds = [dict(one) for one in table[1]]
    if deed is None:
        del deeds[number][symbol]
    else:
        deeds[number][symbol] = deed
    return table[0], tuple(deeds)


def with_items(table, number, items):
    return table[0][:number] + (tuple(items),) + table[0][number + 1:], table[1]


class Holding(unittest.TestCase):
    def test_told_ones(self):
        self.assertGreater(len(TABLES), 60)
        for grammar, table in TABLES:
            self.assertTrue(plain_holds(grammar, table))
            self.assertTrue(holds(grammar, table))

    def test_numbered_otherwise(self):
        chance = Random(5)
        for grammar, table in TABLES:
            rest = list(range(1, len(table[0])))
            for _ in range(3):
                chance.shuffle(rest)
                self.assertTrue(holds(grammar, called_by(table, [0] + rest)))
            if rest:
                self.assertFalse(holds(grammar, called_by(table, rest + [0])))

    def test_items_and_aheads_in_any_order_and_states_twice(self):
        for grammar, table in TABLES:
            turned = tuple(tuple((label, dot, ahead[::-1]) for label, dot, ahead in state[::-1]) for state in table[0])
            self.assertTrue(holds(grammar, (turned, table[1])))
            # A state more to which nothing goes may be like another one, but for the first.
            for number in range(1, len(table[0])):
                double = table[0] + (table[0][number],), table[1] + (table[1][number],)
                self.assertTrue(holds(grammar, double))
            self.assertEqual(holds(grammar, (table[0] + (table[0][0],), table[1] + (table[1][0],))), not table[0][0])

    def test_aheads_that_are_more(self):
        grammar = grammar_of("a: p b\n b: q x")
        table = table_of(grammar)
        more = with_part(table, (0, 0, 2, 2), (END, "y"))
        self.assertEqual(table[0][0][2], ("q", 0, (END,)))
        self.assertFalse(holds(grammar, more))
        state = [deed[1] for symbol, deed in table[1][0].items() if symbol == "x"][0]
        self.assertEqual(table[0][state], (("q", 1, (END,)),))
        self.assertFalse(holds(grammar, with_part(table, (0, state, 0, 2), (END, "y"))))
        more = with_part(more, (0, state, 0, 2), (END, "y"))
        self.assertTrue(holds(grammar, with_deed(more, state, "y", ("by", "q", 1, "b"))))


class Alone(unittest.TestCase):
    """Tables in which all else is as it ought to be."""

    def test_the_wholes_ahead_is_the_end_alone(self):
        grammar = grammar_of("a: p x")
        table = table_of(grammar)
        state = table[1][0]["a"][1]
        self.assertEqual(table[0][state], ((END, 1, (END,)),))
        more = with_deed(with_part(table, (0, state, 0, 2), (END, "y")), state, "y", ("done",))
        self.assertFalse(holds(grammar, more))
        less = with_deed(with_part(table, (0, state, 0, 2), ()), state, END, None)
        self.assertFalse(holds(grammar, less))

    def test_aheads_of_texts_that_are_no_kinds(self):
        grammar = grammar_of("a: p x")
        table = table_of(grammar)
        state = table[1][0]["x"][1]
        for strange, wanted in (("x", True), ("y", True), ("z", False), ("a", False), ("p", False), ("", False), (None, False), (0, False)):
            more = with_part(table, (0, state, 0, 2), (END, strange))
            self.assertEqual(holds(grammar, with_deed(more, state, strange, ("by", "p", 1, "a"))), wanted, strange)

    def test_a_barren_beginning(self):
        grammar = grammar_of("a: p a\n b: q x")
        self.assertTrue(holds(grammar, (((),), ({},))))
        self.assertFalse(holds(grammar, (((("q", 1, ()),),), ({},))))
        self.assertTrue(holds(grammar, (((), (("q", 1, ()),)), ({}, {}))))

    def test_no_go_leads_to_the_first_state(self):
        grammar = grammar_of("a: p x")
        labels = ((END, 0, (END,)), ("p", 0, (END,)), ("p", 1, (END,))), ((END, 1, (END,)),)
        deeds = {"a": ("go", 1), "x": ("go", 0), END: ("by", "p", 1, "a")}, {END: ("done",)}
        self.assertFalse(holds(grammar, (labels, deeds)))
        self.assertFalse(plain_holds(grammar, (labels, deeds)))
        # Nothing is asked of a state by gos to it where there are none.
        labels = labels + (labels[0][2:],)
        deeds = {**deeds[0], "x": ("go", 2)}, deeds[1], {END: ("by", "p", 1, "a")}
        self.assertTrue(holds(grammar, (labels, deeds)))

    def test_deeds_of_another_form(self):
        for grammar, table in TABLES[:20]:
            for number, deeds in enumerate(table[1]):
                for symbol, deed in deeds.items():
                    for other in (deed + (0,), deed[:-1], list(deed), (deed[0].upper(),) + deed[1:], (deed,), ("go",) + deed):
                        self.assertFalse(holds(grammar, with_deed(table, number, symbol, other)))

    def test_what_names_begin_with_by_other_names(self):
        grammar = grammar_of("a: p b c\n b: q x\n c: r d\n d: s e\n e: t y")
        table = table_of(grammar)
        self.assertTrue(holds(grammar, table))
        state = table[1][0]["x"][1]
        self.assertEqual(table[0][state], (("q", 1, ("y",)),))
        at = [item[0] for item in table[0][0]].index("q")
        less = with_part(with_part(table, (0, 0, at, 2), ()), (0, state, 0, 2), ())
        self.assertFalse(holds(grammar, with_deed(less, state, "y", None)))


class Bent(unittest.TestCase):
    def test_bent_by_chance_against_the_plain_judge(self):
        chance = Random(9)
        held = {True: 0, False: 0}
        for grammar, table in TABLES:
            ends = Plain(grammar).ends
            for _ in range(60):
                number = chance.randrange(len(table[0]))
                items = list(table[0][number])
                way = chance.randrange(6)
                other = table
                if way == 0 and items:
                    items.pop(chance.randrange(len(items)))
                    other = with_items(table, number, items)
                elif way == 1 and items:
                    at = chance.randrange(len(items))
                    label, dot, ahead = items[at]
                    end = chance.choice(ends)
                    ahead = tuple(one for one in ahead if one != end) if end in ahead else ahead + (end,)
                    items[at] = (label, dot, ahead)
                    other = with_items(table, number, items)
                elif way == 2:
                    donor = chance.choice(chance.choice(table[0]) or [None])
                    if donor and all(item[:2] != donor[:2] for item in items):
                        other = with_items(table, number, items + [donor])
                elif way == 3 and table[1][number]:
                    other = with_deed(table, number, chance.choice(list(table[1][number])), None)
                elif way == 4 and table[1][number]:
                    deeds = [deed for one in table[1] for deed in one.values()]
                    other = with_deed(table, number, chance.choice(list(table[1][number])), chance.choice(deeds))
                elif way == 5:
                    deeds = [deed for one in table[1] for deed in one.values()] or [("done",)]
                    other = with_deed(table, number, chance.choice(Plain(grammar).symbols), chance.choice(deeds))
                wanted = plain_holds(grammar, other)
                self.assertEqual(holds(grammar, other), wanted, (other, way))
                held[wanted] += other != table
        self.assertGreater(held[False], 1000)

    def test_two_bends_at_once(self):
        chance = Random(10)
        for grammar, table in TABLES:
            places = [path for path, part in parts_of(table) if isinstance(part, str) or isinstance(part, int)]
            words = Plain(grammar).ends + Plain(grammar).labels
            for _ in range(30 if places else 0):
                other = table
                for path in chance.sample(places, min(2, len(places))):
                    part = chance.choice(words) if path[-1] != 1 else chance.randrange(4)
                    if other[path[0]] is not None:
                        other = with_part(other, path, part)
                self.assertIs(type(holds(grammar, other)), bool)


class Broken(unittest.TestCase):
    """A table of a: p b x | q x and b: r y | s, and each condition broken alone."""

    def setUp(self):
        self.grammar = grammar_of("a: p b x | q y\n b: r a | s")
        self.table = table_of(self.grammar)
        self.assertTrue(holds(self.grammar, self.table))

    def broken(self, table):
        self.assertFalse(holds(self.grammar, table))
        self.assertFalse(plain_holds(self.grammar, table))

    def test_a(self):
        state = self.table[0][0]
        self.assertEqual(state[0], (END, 0, (END,)))
        self.broken(with_items(self.table, 0, state[1:]))
        self.assertFalse(holds(self.grammar, with_part(self.table, (0, 0, 0, 2), ())))
        self.assertFalse(holds(self.grammar, with_part(self.table, (0, 0, 0, 2), (END, "x"))))
        # Another state that has the whole with dot 0, and all that it asks for.
        twin = self.table[0] + (state,), self.table[1] + (self.table[1][0],)
        self.broken(twin)
        self.assertFalse(holds(self.grammar, with_deed(self.table, 0, "y", ("go", 0))))
        barren = READ["none"]
        self.assertTrue(holds(barren, (((),), ({},))))
        self.assertFalse(holds(barren, ((((END, 0, (END,)),),), ({},))))
        self.assertFalse(holds(barren, (((), ((END, 0, (END,)),)), ({}, {}))))
        self.assertTrue(holds(barren, (((), ()), ({}, {}))))
        self.assertFalse(holds(self.grammar, (((),), ({},))))

    def test_b(self):
        # The ahead of what a name puts in lacks one; its by is left out, too.
        for number, state in enumerate(self.table[0]):
            for at, (label, dot, ahead) in enumerate(state):
                if label == "s" and dot == 0:
                    less = with_part(self.table, (0, number, at, 2), ())
                    self.assertEqual(ahead, ("x",))
                    self.broken(with_deed(less, number, "x", None))

    def test_c(self):
        for number, deeds in enumerate(self.table[1]):
            for symbol, deed in deeds.items():
                if deed[0] == "go":
                    self.broken(with_deed(self.table, number, symbol, None))
                    for to in range(1, len(self.table[0])):
                        if to != deed[1]:
                            self.broken(with_deed(self.table, number, symbol, ("go", to)))

    def test_d(self):
        for number, deeds in enumerate(self.table[1]):
            for symbol, deed in deeds.items():
                if deed[0] == "by":
                    self.broken(with_deed(self.table, number, symbol, None))
                    for other in (("by", "r", deed[2], deed[3]) if deed[1] != "r" else ("by", "s", deed[2], deed[3]),
                                  ("by", deed[1], deed[2] + 1, deed[3]), ("by", deed[1], deed[2], "x"), ("done",)):
                        self.broken(with_deed(self.table, number, symbol, other))
                    self.assertFalse(holds(self.grammar, with_deed(self.table, number, symbol, deed[:2] + (bool(deed[2]),) + deed[3:]))
                                     and deed[2] > 1)
                if deed[0] == "done":
                    self.broken(with_deed(self.table, number, symbol, None))
                    self.assertFalse(holds(self.grammar, with_deed(self.table, number, symbol, ("done", 0))))

    def test_numbers_that_are_truths(self):
        grammar = grammar_of("a: p x")
        table = table_of(grammar)
        for path, part in parts_of(table):
            if part == 1 and isinstance(part, int):
                self.assertFalse(holds(grammar, with_part(table, path, True)), path)
            if part == 0 and isinstance(part, int):
                self.assertFalse(holds(grammar, with_part(table, path, False)), path)

    def test_e(self):
        for number, deeds in enumerate(self.table[1]):
            for symbol in ["x", "y", "a", "b", END, "z", "", "p"]:
                if symbol not in deeds:
                    for deed in (("go", 1), ("done",), ("by", "s", 0, "b")):
                        self.broken(with_deed(self.table, number, symbol, deed))
            for key in (None, 0, ("x",), b"x", True):
                self.assertFalse(holds(self.grammar, with_deed(self.table, number, key, ("done",))))
        for to in (len(self.table[0]), -1, 10 ** 9):
            self.assertFalse(holds(self.grammar, with_deed(self.table, 0, "y", ("go", to))))

    def test_f(self):
        # A state to which one goes has an item of which the state ahead has nothing.
        to = self.table[1][0]["y"][1]
        self.assertEqual(self.table[0][to], (("q", 1, (END, "x")),))
        for item in (("p", 2, ()), ("s", 0, ())):
            self.broken(with_items(self.table, to, self.table[0][to] + (item,)))
        self.broken(with_items(self.table, to, self.table[0][to] + (("r", 1, ()),)))
        # The state ahead has it, but passes it by another symbol.
        grammar = grammar_of("a: p x | q y")
        table = table_of(grammar)
        to = table[1][0]["x"][1]
        other = with_items(table, to, table[0][to] + (("q", 1, ()),))
        self.assertFalse(holds(grammar, other))
        self.assertFalse(plain_holds(grammar, other))

    def test_g(self):
        # An item that stands on itself alone, and asks for nothing that is not there.
        grammar = grammar_of("a: p x\n b: q b y | r y\n c: s y", begin="a")
        table = table_of(grammar)
        self.assertTrue(holds(grammar, table))
        more = with_items(table, 0, table[0][0] + (("s", 0, ()),))
        made = len(table[0])
        more = more[0] + ((("s", 1, ()),),), more[1] + ({},)
        more = with_deed(more, 0, "y", ("go", made))
        self.assertFalse(holds(grammar, more))
        self.assertFalse(plain_holds(grammar, more))
        # The same where another item of the state has its name next.
        rooted = grammar_of("a: p x | t c\n c: s y", begin="a")
        self.assertTrue(holds(rooted, table_of(rooted)))
        ring = with_items(table, 0, table[0][0] + (("q", 0, ("y",)), ("r", 0, ("y",))))
        ring = ring[0] + ((("q", 1, ("y",)),), (("r", 1, ("y",)),), (("q", 2, ("y",)),)), ring[1] + (
            {"y": ("go", made + 2)}, {"y": ("by", "r", 1, "b")}, {"y": ("by", "q", 2, "b")})
        ring = with_deed(with_deed(ring, 0, "b", ("go", made)), 0, "y", ("go", made + 1))
        self.assertFalse(holds(grammar, ring))
        self.assertFalse(plain_holds(grammar, ring))

    def test_forms(self):
        grammar = NAMED["half"]
        check_form(self, grammar, ("table", table_of(grammar)), 80)
        table = table_of(SUMS)
        self.assertTrue(holds(SUMS, table))
        for number, state in enumerate(table[0]):
            for at, item in enumerate(state):
                for other in (("z", item[1], item[2]), (item[0], -1, item[2]), (item[0], 9, item[2]), item[:2], item + (0,),
                              item[:2] + (("z",),), item[:2] + (item[2] + item[2][:1],), item[:2] + (list(item[2]),)):
                    self.assertFalse(holds(SUMS, with_part(table, (0, number, at), other)))
            self.assertFalse(holds(SUMS, with_items(table, number, state + state[:1])))
        self.assertFalse(holds(SUMS, (table[0], table[1][:-1])))
        self.assertFalse(holds(SUMS, (table[0] + ((),), table[1])))
        self.assertFalse(holds(SUMS, ((), ())))
        for part in (None, 0, "x", [], others(())[0]):
            self.assertFalse(holds(SUMS, with_part(table, (1, 0), part)))
