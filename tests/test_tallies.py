"""Point 54, with the expressions of point 53: tallies, their refusals, what is put in, and tallies of parted grammars."""

import copy
import unittest
from itertools import permutations

from tests.brute_grammars import BARRED, NAMED, SUMS, grammar_of, some_grammars
from tongueyard.bars import parted
from tongueyard.errors import AllBarred, NoTally, TooMany
from tongueyard.tallies import completed, due_sums, is_tally, parted_tally, tally_of

SIZE = ("size", "up", "number", ("sum", "term"))
DEPTH = ("depth", "down", "number", ("sum", "term"))
SHOWN = ("shown", "up", "text", ("term",))
USED = ("used", "up", "names", ("sum",))
MARKS = [SIZE, DEPTH, SHOWN, USED]
AT = ("at", 0, "depth")
SUMS_OF = [
    ("one", 0, "size", ("at", 1, "size")),
    ("one", 0, "used", ("just", ("at", 1, "shown"))),
    ("one", 1, "depth", ("plus", AT, ("number", 1))),
    ("both", 0, "size", ("plus", ("at", 1, "size"), ("at", 3, "size"))),
    ("both", 0, "used", ("either", ("at", 1, "used"), ("just", ("at", 3, "shown")))),
    ("both", 1, "depth", AT),
    ("both", 3, "depth", AT),
    ("leaf", 0, "size", ("long", ("word", 1))),
    ("leaf", 0, "shown", ("word", 1)),
    ("none", 0, "size", ("number", 0)),
    ("none", 0, "shown", ("text", "-")),
]
ANYTHING = [None, True, 0, 7, 1.5, "", "size", b"size", (), [], {}, {1}, object(), str, len, ("size",), (("size",),) * 4,
            (None, None, None, None), ([], [], [], []), ({}, {}, {}, {})]


def refused(call, *arguments):
    """With what a call is refused, or None."""
    try:
        call(*arguments)
    except NoTally as refusal:
        return refusal.what, refusal.row
    return None


def mark_fault(marks, grammar=SUMS):
    """The number of the mark that is refused, or None; without sums what lacks may be refused instead."""
    told = refused(tally_of, grammar, marks, [])
    assert refused(completed, grammar, marks, [])is None or told is not None
    return told[1] if told is not None and told[0] == "mark" else None


class Due(unittest.TestCase):
    def test_their_order(self):
        self.assertEqual(due_sums(SUMS, MARKS), [one[:3] for one in SUMS_OF])
        self.assertEqual(due_sums(SUMS, [USED, SHOWN, DEPTH, SIZE]), [
            ("one", 0, "used"), ("one", 0, "size"), ("one", 1, "depth"), ("both", 0, "used"), ("both", 0, "size"),
            ("both", 1, "depth"), ("both", 3, "depth"), ("leaf", 0, "shown"), ("leaf", 0, "size"), ("none", 0, "shown"),
            ("none", 0, "size")])
        self.assertEqual(due_sums(SUMS, []), [])

    def test_two_downs_at_each_place(self):
        grammar = grammar_of("a: p b x a b\n b: q")
        marks = [("d", "down", "text", ("b",)), ("u", "up", "text", ("a",)), ("e", "down", "number", ("b", "a"))]
        self.assertEqual(due_sums(grammar, marks), [("p", 0, "u"), ("p", 1, "d"), ("p", 1, "e"), ("p", 3, "e"),
                                                    ("p", 4, "d"), ("p", 4, "e")])

    def test_of_barren_rules_and_those_not_come_to(self):
        self.assertEqual(due_sums(NAMED["apart"], [("u", "up", "text", ("c", "b"))]),
                         [("r", 0, "u"), ("s", 0, "u"), ("t", 0, "u"), ("u", 0, "u")])


class Right(unittest.TestCase):
    def test_told(self):
        wanted = (tuple(MARKS), tuple(SUMS_OF))
        for sums in (SUMS_OF, SUMS_OF[::-1], SUMS_OF[5:] + SUMS_OF[:5]):
            self.assertEqual(tally_of(SUMS, MARKS, sums), wanted)
            self.assertEqual(completed(SUMS, MARKS, sums), wanted)
        self.assertIs(is_tally(SUMS, wanted), True)
        self.assertEqual(tally_of(SUMS, [], []), ((), ()))
        self.assertIs(is_tally(SUMS, ((), ())), True)

    def test_no_tallies(self):
        marks, sums = tally_of(SUMS, MARKS, SUMS_OF)
        for thing in ANYTHING + [(list(marks), sums), (marks, list(sums)), [marks, sums], (marks,), (marks, sums, ()),
                                 (marks, sums[:-1]), (marks, sums[1:]), (marks, sums + sums[:1]), (marks, sums[::-1]),
                                 (marks[::-1], sums), (marks[:-1], sums), (marks, ()), ((), sums), (sums, marks),
                                 (marks, sums[1::-1] + sums[2:]), (marks + marks[:1], sums)]:
            self.assertIs(is_tally(SUMS, thing), False, thing)
        for thing in ANYTHING:
            for at in range(len(marks)):
                self.assertIs(is_tally(SUMS, (marks[:at] + (thing,) + marks[at + 1:], sums)), False)
            for at in range(len(sums)):
                self.assertIs(is_tally(SUMS, (marks, sums[:at] + (thing,) + sums[at + 1:])), False)


class Marks(unittest.TestCase):
    def test_each_part(self):
        for mark in (SIZE, DEPTH, SHOWN, USED, ("abcdefgh", "up", "names", ("term", "sum"))):
            self.assertIsNone(mark_fault([mark]))
        for mark in (("Size", "up", "number", ("sum",)), ("", "up", "number", ("sum",)), ("top", "up", "number", ("sum",)),
                     ("abcdefghi", "up", "number", ("sum",)), (7, "up", "number", ("sum",)), ("size", "Up", "number", ("sum",)),
                     ("size", "", "number", ("sum",)), ("size", None, "number", ("sum",)), ("size", "up", "name", ("sum",)),
                     ("size", "up", 1, ("sum",)), ("size", "up", "number", ()), ("size", "up", "number", ("sum", "sum")),
                     ("size", "up", "number", ("num",)), ("size", "up", "number", ("one",)), ("size", "up", "number", "sum"),
                     ("size", "up", "number", ["sum"]), ("size", "up", "number", ("sum", 7)), ("size", "up", "number", ([],)),
                     ("size", "up", "number"), ("size", "up", "number", ("sum",), ()), list(SIZE)):
            self.assertEqual(mark_fault([mark]), 0, mark)
            self.assertEqual(mark_fault([USED, mark, mark]), 1, mark)

    def test_anything(self):
        for thing in ANYTHING:
            self.assertEqual(mark_fault([thing]), 0)
            self.assertEqual(mark_fault([SIZE, DEPTH, thing]), 2)
            for at in range(4):
                if thing != SIZE[at]:
                    self.assertEqual(mark_fault([SIZE[:at] + (thing,) + SIZE[at + 1:]]), 0, thing)

    def test_attributes_unlike(self):
        self.assertEqual(mark_fault([SIZE, DEPTH, ("size", "down", "text", ("term",))]), 2)
        self.assertEqual(mark_fault([SIZE, ("size", "up", "number", ("sum", "term"))]), 1)

    def test_eight(self):
        grammar = grammar_of("a: p b\n b: q c\n c: r x")
        marks = [("m" + letter, "up", "number", ("abc"[at % 3],)) for at, letter in enumerate("abcdefghi")]
        self.assertIsNone(mark_fault(marks[:8], grammar))
        self.assertEqual(mark_fault(marks, grammar), 8)
        self.assertEqual(mark_fault(marks[:8] + [None, None], grammar), 8)

    def test_four_of_a_rule_and_two_downs(self):
        ups = [("u" + letter, "up", "number", ("sum", "term")) for letter in "abcde"]
        downs = [("d" + letter, "down", "text", ("term",)) for letter in "abc"]
        self.assertIsNone(mark_fault(ups[:4]))
        self.assertEqual(mark_fault(ups), 4)
        self.assertIsNone(mark_fault(ups[:2] + downs[:2]))
        self.assertEqual(mark_fault(ups[:3] + downs[:2]), 4)
        self.assertEqual(mark_fault(downs), 2)
        self.assertIsNone(mark_fault(downs[:2] + [("e", "down", "text", ("sum",))]))
        self.assertEqual(mark_fault(downs[:2] + [("e", "down", "text", ("sum", "term"))]), 2)


class Expressions(unittest.TestCase):
    GRAMMAR = grammar_of("a: p b x a y\n b: q")
    MARKS = [("num", "up", "number", ("a", "b")), ("text", "up", "text", ("a",)), ("list", "up", "names", ("b",)),
             ("dnum", "down", "number", ("a",)), ("dtext", "down", "text", ("b", "a"))]
    NUMBERS = [("number", 0), ("number", 10 ** 9), ("at", 1, "num"), ("at", 3, "num"), ("at", 0, "dnum"),
               ("plus", ("number", 1), ("at", 1, "num")), ("times", ("number", 1), ("number", 1)),
               ("less", ("number", 1), ("number", 2)), ("most", ("number", 1), ("number", 2)), ("long", ("word", 2)),
               ("digits", ("text", "12")), ("many", ("nobody",)), ("has", ("at", 1, "list"), ("text", "")),
               ("same", ("number", 1), ("at", 3, "num")), ("same", ("text", "a"), ("word", 4)),
               ("same", ("nobody",), ("nobody",)), ("choose", ("number", 1), ("number", 2), ("number", 3))]
    TEXTS = [("text", ""), ("text", "a" * 60), ("word", 2), ("word", 4), ("at", 3, "text"), ("at", 0, "dtext"),
             ("join", ("text", "a"), ("word", 2)), ("shown", ("number", 7)),
             ("choose", ("number", 0), ("text", "a"), ("word", 4))]
    LISTS = [("nobody",), ("just", ("text", "a")), ("at", 1, "list"), ("either", ("nobody",), ("at", 1, "list")),
             ("off", ("at", 1, "list"), ("just", ("word", 2))), ("choose", ("at", 1, "num"), ("nobody",), ("nobody",))]
    NONE = [("at", 2, "num"), ("at", 4, "num"), ("at", 5, "num"), ("at", -1, "num"), ("at", 0, "num"), ("at", 1, "text"),
            ("at", 3, "list"), ("at", 1, "dtext"), ("at", 3, "dnum"), ("at", 0, "text"), ("at", True, "num"), ("at", 1.0, "num"),
            ("at", 1, "nil"), ("at", 1), ("at", 1, "num", 0), ("at", "1", "num"), ("at", 1, None), ("at", [], []), ("at",),
            ("word", 1), ("word", 3), ("word", 0), ("word", 5), ("word", True), ("word", 2.0), ("word",), ("word", 2, 2),
            ("text", "a" * 61), ("text", "%"), ("text", 7), ("text",), ("text", "a", "b"), ("number", -1),
            ("number", 10 ** 9 + 1), ("number", True), ("number", 1.0), ("number", "1"), ("number",), ("number", 1, 2),
            ("plus", ("number", 1)), ("plus", ("number", 1), ("text", "")), ("plus", 1, 2), ("plus",),
            ("plus", ("number", 1), ("number", 1), ("number", 1)), ("join", ("text", ""), ("number", 1)),
            ("shown", ("text", "")), ("long", ("number", 1)), ("many", ("text", "")), ("has", ("text", ""), ("nobody",)),
            ("same", ("number", 1), ("text", "")), ("same", ("number", 1)), ("same",), ("just", ("nobody",)),
            ("either", ("nobody",), ("text", "")), ("nobody", ("nobody",)), ("nobody", 1),
            ("choose", ("text", ""), ("number", 1), ("number", 1)), ("choose", ("number", 1), ("number", 1), ("text", "")),
            ("choose", ("number", 1), ("number", 1)), ("nil", ("number", 1)), ("", ("number", 1)), (7, 7), (None,), (),
            ["number", 1], "number", 7, None, ["nobody"], (("nobody",),), (["nobody"],)]

    def is_right(self, attribute, expression):
        told = refused(completed, self.GRAMMAR, self.MARKS, [("p", 0, attribute, expression)])
        self.assertIn(told, (None, ("sum", 0)))
        return told is None

    def test_sorts(self):
        for expression in self.NUMBERS:
            self.assertTrue(self.is_right("num", expression), expression)
            self.assertFalse(self.is_right("text", expression), expression)
        for expression in self.TEXTS:
            self.assertTrue(self.is_right("text", expression), expression)
            self.assertFalse(self.is_right("num", expression), expression)
        for expression in self.LISTS:
            self.assertFalse(self.is_right("num", expression) or self.is_right("text", expression), expression)
            self.assertTrue(self.is_right("num", ("many", expression)), expression)

    def test_none(self):
        for expression in self.NONE + ANYTHING:
            for whole in (expression, ("plus", ("number", 1), expression), ("many", expression), ("long", expression)):
                self.assertFalse(self.is_right("num", whole), whole)
            for whole in (expression, ("join", expression, ("text", "")), ("shown", expression)):
                self.assertFalse(self.is_right("text", whole), whole)

    def test_what_is_read_at_other_labels(self):
        for label, place, attribute, expression, right in (
                ("p", 1, "dtext", ("at", 0, "dtext"), True), ("p", 1, "dtext", ("at", 3, "text"), True),
                ("p", 3, "dnum", ("at", 3, "num"), True), ("p", 3, "dnum", ("at", 3, "dnum"), False),
                ("q", 0, "num", ("at", 0, "dtext"), False), ("q", 0, "num", ("long", ("at", 0, "dtext")), True),
                ("q", 0, "num", ("at", 0, "dnum"), False), ("q", 0, "num", ("word", 1), False),
                ("q", 0, "list", ("nobody",), True), ("q", 0, "list", ("at", 0, "list"), False)):
            told = refused(completed, self.GRAMMAR, self.MARKS, [(label, place, attribute, expression)])
            self.assertEqual(told, None if right else ("sum", 0), (label, place, attribute, expression))

    def chain(self, parts):
        """A sum of numbers that stand within one another, of an uneven number of parts."""
        return ("number", 1) if parts == 1 else ("plus", self.chain(parts - 2), ("number", 1))

    def flat(self, parts):
        if parts == 1:
            return ("number", 1)
        left = (parts - 1) // 2
        return ("plus", self.flat(left if left % 2 else left - 1), self.flat(parts - 1 - (left if left % 2 else left - 1)))

    def test_sixteen_parts(self):
        self.assertTrue(self.is_right("num", self.flat(15)))
        self.assertTrue(self.is_right("num", ("long", ("shown", self.flat(13)))))
        self.assertTrue(self.is_right("text", ("shown", self.flat(15))))
        self.assertFalse(self.is_right("num", self.flat(17)))
        self.assertFalse(self.is_right("num", ("long", ("shown", self.flat(15)))))
        self.assertFalse(self.is_right("num", self.flat(31)))

    def test_within_five_others(self):
        self.assertTrue(self.is_right("num", self.chain(11)))
        self.assertFalse(self.is_right("num", self.chain(13)))
        for many, right in ((5, True), (6, False), (30, False), (5000, False)):
            expression = ("nobody",)
            for _ in range(many):
                expression = ("either", expression, ("nobody",)) if many < 6 else ("off", expression, ("nobody",))
            told = refused(completed, self.GRAMMAR, self.MARKS, [("q", 0, "list", expression)])
            self.assertEqual(told, None if right else ("sum", 0), many)


class Refused(unittest.TestCase):
    def test_sums(self):
        for at in range(len(SUMS_OF)):
            for thing in ANYTHING + [SUMS_OF[at][:3], SUMS_OF[at] + ((),), list(SUMS_OF[at])]:
                for call in (tally_of, completed):
                    sums = SUMS_OF[:at] + [thing] + SUMS_OF[at:]
                    self.assertEqual(refused(call, SUMS, MARKS, sums), ("sum", at), thing)

    def test_each_part_of_a_sum(self):
        label, place, attribute, expression = SUMS_OF[3]
        for wrong in [("nil", place, attribute, expression), ("leaf", 1, "depth", AT), (label, 2, "depth", AT),
                      (label, 4, "depth", AT), (label, -1, attribute, expression), (label, False, attribute, expression),
                      (label, 0.0, attribute, expression), (label, place, "nil", expression), (label, 0, "depth", AT),
                      (label, 1, "size", expression), (label, place, "used", expression), (label, place, attribute, AT + (0,)),
                      (label, True, "depth", AT), (label, place, attribute, ("text", ""))] + [
                      (thing, place, attribute, expression) for thing in ANYTHING] + [
                      (label, thing, attribute, expression) for thing in ANYTHING if type(thing) is not int] + [
                      (label, place, thing, expression) for thing in ANYTHING if thing != "size"]:
            self.assertEqual(refused(tally_of, SUMS, MARKS, SUMS_OF[:3] + [wrong] + SUMS_OF[4:]), ("sum", 3), wrong)

    def test_a_sum_that_stood_ahead(self):
        for at in range(len(SUMS_OF)):
            twice = SUMS_OF + [SUMS_OF[at]]
            self.assertEqual(refused(tally_of, SUMS, MARKS, twice), ("sum", len(SUMS_OF)))
            self.assertEqual(refused(completed, SUMS, MARKS, [SUMS_OF[at]] + SUMS_OF), ("sum", at + 1))
        other = SUMS_OF[9][:3] + (("number", 5),)
        self.assertEqual(refused(tally_of, SUMS, MARKS, [other] + SUMS_OF), ("sum", 10))

    def test_lacks(self):
        for at in range(len(SUMS_OF)):
            fewer = SUMS_OF[:at] + SUMS_OF[at + 1:]
            self.assertEqual(refused(tally_of, SUMS, MARKS, fewer), ("lacks", SUMS_OF[at][:3]))
            self.assertEqual(refused(tally_of, SUMS, MARKS, fewer[:at][::-1]), ("lacks", SUMS_OF[at if at else 0][:3]))
        self.assertEqual(refused(tally_of, SUMS, MARKS, []), ("lacks", ("one", 0, "size")))

    def test_their_order(self):
        for call in (tally_of, completed):
            self.assertEqual(refused(call, SUMS, [SIZE, None], [None]), ("mark", 1))
            self.assertEqual(refused(call, SUMS, [SIZE, SIZE, None], [None]), ("mark", 1))
            self.assertEqual(refused(call, SUMS, [DEPTH], [None]), ("sum", 0))
        self.assertEqual(refused(tally_of, SUMS, [SIZE], [SUMS_OF[0], None]), ("sum", 1))


class Completed(unittest.TestCase):
    def made(self, grammar, marks, sums=()):
        told = completed(grammar, list(marks), list(sums))
        self.assertTrue(is_tally(grammar, told))
        return {one[:3]: one[3] for one in told[1]}

    def test_ups(self):
        grammar = grammar_of("a: p | q b x | r b a b | s a a a a a a\n b: t y")
        for sort, join, nothing in (("number", "plus", ("number", 0)), ("text", "join", ("text", "")),
                                    ("names", "either", ("nobody",))):
            made = self.made(grammar, [("u", "up", sort, ("b", "a"))])
            self.assertEqual(made[("p", 0, "u")], nothing)
            self.assertEqual(made[("t", 0, "u")], nothing)
            self.assertEqual(made[("q", 0, "u")], ("at", 1, "u"))
            self.assertEqual(made[("r", 0, "u")], (join, (join, ("at", 1, "u"), ("at", 2, "u")), ("at", 3, "u")))
            six = ("at", 1, "u")
            for place in range(2, 7):
                six = (join, six, ("at", place, "u"))
            self.assertEqual(made[("s", 0, "u")], six)

    def test_ups_of_parts_that_bear_them(self):
        grammar = grammar_of("a: p b a x b\n b: q a")
        self.assertEqual(self.made(grammar, [("u", "up", "text", ("a",))]), {("p", 0, "u"): ("at", 2, "u")})
        self.assertEqual(self.made(grammar, [("u", "up", "text", ("b",))]), {("q", 0, "u"): ("text", "")})

    def test_downs(self):
        grammar = grammar_of("a: p a b x\n b: q b")
        self.assertEqual(self.made(grammar, [("d", "down", "text", ("a", "b"))]),
                         {("p", 1, "d"): ("at", 0, "d"), ("p", 2, "d"): ("at", 0, "d"), ("q", 1, "d"): ("at", 0, "d")})
        marks = [("u", "up", "number", ("a",)), ("d", "down", "text", ("b",))]
        self.assertEqual(refused(completed, grammar, marks, []), ("lacks", ("p", 2, "d")))
        self.assertEqual(self.made(grammar, marks, [("p", 2, "d", ("word", 3))]),
                         {("p", 0, "u"): ("at", 1, "u"), ("p", 2, "d"): ("word", 3), ("q", 1, "d"): ("at", 0, "d")})
        # An up of that name at its own rule is no down.
        self.assertEqual(refused(completed, grammar, [("d", "down", "text", ("b",)), ("e", "up", "text", ("a",))], []),
                         ("lacks", ("p", 2, "d")))

    def test_the_first_that_cant_be_put_in(self):
        grammar = grammar_of("a: p b | q x b\n b: r")
        marks = [("d", "down", "text", ("b",))]
        self.assertEqual(refused(completed, grammar, marks, []), ("lacks", ("p", 1, "d")))
        self.assertEqual(refused(completed, grammar, marks, [("p", 1, "d", ("text", ""))]), ("lacks", ("q", 2, "d")))

    def test_what_stands_stays(self):
        made = self.made(SUMS, MARKS, SUMS_OF[3:4])
        self.assertEqual(made[("both", 0, "size")], SUMS_OF[3][3])
        self.assertEqual(made[("leaf", 0, "size")], ("number", 0))
        self.assertEqual(made[("one", 0, "used")], ("nobody",))
        self.assertEqual(sorted(made), sorted(one[:3] for one in SUMS_OF))


class Parted(unittest.TestCase):
    def test_without_bars(self):
        marks = [("size", "up", "number", ("term", "sum"))] + MARKS[1:]
        tally = tally_of(SUMS, marks, SUMS_OF)
        self.assertEqual(parted_tally(SUMS, tally), (tuple(MARKS), tally[1]))

    def test_with_bars(self):
        grammar = grammar_of("a: p a x a | q b\n b: r y | s a\n c: t", bars=(("p", 3, "p"), ("q", 1, "s")))
        marks = [("u", "up", "number", ("c", "b", "a")), ("v", "up", "text", ("c",)), ("d", "down", "text", ("a",))]
        sums = [("p", 0, "u", ("at", 3, "u")), ("p", 1, "d", ("word", 2)), ("p", 3, "d", ("at", 0, "d")),
                ("q", 0, "u", ("number", 7)), ("r", 0, "u", ("long", ("word", 1))), ("s", 0, "u", ("number", 5)),
                ("s", 1, "d", ("text", "")), ("t", 0, "u", ("number", 0)), ("t", 0, "v", ("text", "t"))]
        tally = tally_of(grammar, marks, sums)
        plain = parted(grammar).plain()
        self.assertEqual(plain, grammar_of("a: p a x aaa | q baa\n aaa: qaa baa\n baa: raa y"))
        told = parted_tally(grammar, tally)
        self.assertEqual(told, ((("u", "up", "number", ("a", "aaa", "baa")), ("d", "down", "text", ("a", "aaa"))),
                                (("p", 0, "u", ("at", 3, "u")), ("p", 1, "d", ("word", 2)), ("p", 3, "d", ("at", 0, "d")),
                                 ("q", 0, "u", ("number", 7)), ("qaa", 0, "u", ("number", 7)),
                                 ("raa", 0, "u", ("long", ("word", 1))))))
        self.assertTrue(is_tally(plain, told))

    def test_it_is_a_tally_of_the_plain_grammar(self):
        some = 0
        for grammar in list(BARRED.values()) + some_grammars(6, 40, True) + some_grammars(7, 10):
            names = tuple(name for name, _ in grammar.rules())
            marks = [("u", "up", "number", names[::-1]), ("v", "up", "text", names[-1:]), ("d", "down", "names", names)]
            tally = completed(grammar, marks, [])
            try:
                plain = parted(grammar).plain()
            except AllBarred:
                self.assertRaises(AllBarred, parted_tally, grammar, tally)
                continue
            some += 1
            told = parted_tally(grammar, tally)
            self.assertTrue(is_tally(plain, told))
            self.assertEqual(told[0][0][3], tuple(name for name, _ in plain.rules()))
            found = {one[:3]: one[3] for one in tally[1]}
            for label, place, attribute, expression in told[1]:
                self.assertEqual(found[(parted(grammar).old_label(label), place, attribute)], expression)
        self.assertGreater(some, 30)

    def test_refused_as_parted(self):
        names = ["b" + letter for letter in "abcdefghijklmnopqrst"]
        rows = ["a: " + " | ".join(f"p{name} {name} | q{name} {name}" for name in names)]
        grammar = grammar_of("\n".join(rows + [f"{name}: {name}" for name in names]),
                             bars=tuple(("q" + name, 1, name) for name in names))
        self.assertRaises(TooMany, parted_tally, grammar, ((), ()))


class Kept(unittest.TestCase):
    def test_nothing_is_changed_and_told_alike(self):
        for marks in permutations(MARKS):
            kept = copy.deepcopy((list(marks), SUMS_OF))
            first = completed(SUMS, list(marks), SUMS_OF)
            self.assertEqual(completed(SUMS, *kept), first)
            self.assertEqual((list(marks), SUMS_OF), kept)
        given, sums = list(MARKS), list(SUMS_OF)
        told = tally_of(SUMS, given, sums)
        given.clear()
        sums.clear()
        self.assertEqual(told, (tuple(MARKS), tuple(SUMS_OF)))
        due_sums(SUMS, MARKS).clear()
        self.assertEqual(len(due_sums(SUMS, MARKS)), len(SUMS_OF))
