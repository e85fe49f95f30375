"""Point 33: the judge of what is known."""

import unittest

from tests.bent import check_form
from tests.brute_grammars import BARRED, NAMED, SUMS, grammar_of, some_grammars, spelled_plainly
from tests.brute_reading import READ
from tongueyard.judge import lets_by
from tongueyard.judge_known import known_holds
from tongueyard.known import known_paper, ring
from tongueyard.grammars import END, Grammar
from tongueyard.trees import nodes_of, spelled_by

SAMPLES = list(NAMED.values()) + list(READ.values()) + some_grammars(45, 60)


def put(paper, part, rows):
    return paper[:part] + (tuple(rows),) + paper[part + 1:]


class Known(unittest.TestCase):
    def test_told_ones(self):
        for grammar in SAMPLES + some_grammars(46, 150):
            self.assertTrue(lets_by(grammar, known_paper(grammar)))
            self.assertTrue(known_holds(grammar, known_paper(grammar)))

    def test_each_row_left_out_or_twice(self):
        for grammar in SAMPLES:
            paper = known_paper(grammar)
            for part in (1, 2, 3, 4, 6):
                for at in range(len(paper[part])):
                    rows = paper[part]
                    self.assertFalse(lets_by(grammar, put(paper, part, rows[:at] + rows[at + 1:])), (part, at))
                    self.assertFalse(lets_by(grammar, put(paper, part, rows[:at + 1] + rows[at:])), (part, at))
            if paper[5]:
                for other in (paper[5][1:], paper[5] * 2, paper[5] + paper[5][:1]):
                    self.assertFalse(lets_by(grammar, put(paper, 5, other)))

    def test_a_ring_turned_about(self):
        for grammar in SAMPLES:
            paper = known_paper(grammar)
            for at in range(len(paper[5])):
                self.assertTrue(lets_by(grammar, put(paper, 5, paper[5][at:] + paper[5][:at])))
                if len(paper[5]) > 2:
                    self.assertFalse(lets_by(grammar, put(paper, 5, paper[5][::-1])))

    def test_neither_or_both_of_ring_and_falls(self):
        for grammar in SAMPLES:
            paper = known_paper(grammar)
            if paper[5]:
                standing = [row[0] for row in paper[3]]
                self.assertFalse(lets_by(grammar, put(paper, 5, ())))
                self.assertFalse(lets_by(grammar, put(paper, 6, [(name, at) for at, name in enumerate(standing)])))
                for numbers in (standing, standing[::-1]):
                    falls = sorted((name, numbers.index(name)) for name in standing)
                    self.assertFalse(lets_by(grammar, put(put(paper, 5, ()), 6, falls)))
            else:
                self.assertFalse(lets_by(grammar, put(paper, 5, (("p", 1),))))
                if paper[6]:
                    self.assertFalse(lets_by(grammar, put(paper, 6, ())))

    def test_falls(self):
        grammar = NAMED["deep"]
        paper = known_paper(grammar_of("a: p b | q x\n b: r c | s y\n c: t y"))
        grammar = grammar_of("a: p b | q x\n b: r c | s y\n c: t y")
        for falls, wanted in (((2, 1, 0), True), ((9, 5, -7), True), ((10 ** 20, 0, -1), True), ((1, 1, 0), False),
                              ((2, 0, 0), False), ((0, 1, 2), False), ((2, 1, True), False), ((2, 1.0, 0), False)):
            rows = tuple(zip("abc", falls))
            self.assertEqual(lets_by(grammar, put(paper, 6, rows)), wanted, falls)
        for rows in ((("a", 2), ("b", 1)), (("a", 2), ("b", 1), ("c", 0), ("d", 0)), (("a", 2), ("b", 1), ("x", 0))):
            self.assertFalse(lets_by(grammar, put(paper, 6, rows)))
        # A rule that stands nowhere has no number.
        grammar = grammar_of("a: p x\n b: q a")
        paper = known_paper(grammar)
        self.assertEqual(paper[6], (("a", 0),))
        for falls in ((("a", 0), ("b", 1)), (("b", 0),), (("z", 0),), ()):
            self.assertFalse(lets_by(grammar, put(paper, 6, falls)))

    def test_least_ones(self):
        grammar = grammar_of("a: p x | q y | r b\n b: s a | t x x")
        paper = known_paper(grammar)
        # Of several that are as least any one.
        self.assertTrue(lets_by(grammar, put(paper, 1, (("a", ("q",)), ("b", ("s", "p"))))))
        self.assertTrue(lets_by(grammar, put(paper, 1, (("a", ("p",)), ("b", ("s", "q"))))))
        for rows in ((("a", ("p",)), ("b", ("t",))), (("a", ("r", "s", "p")), ("b", ("s", "p"))), (("a", ("s", "p")), ("b", ("s", "p"))),
                     (("a", ()), ("b", ("s", "p"))), (("b", ("s", "p")), ("a", ("p",))), (("a", ("p",)),), (("b", ("s", "p")),)):
            self.assertFalse(lets_by(grammar, put(paper, 1, rows)), rows)
        # As few words, but more labels.
        grammar = grammar_of("a: p b | q\n b: r | s a")
        paper = known_paper(grammar)
        self.assertTrue(lets_by(grammar, paper))
        self.assertFalse(lets_by(grammar, put(paper, 1, (("a", ("p", "r")), ("b", ("r",))))))

    def test_other_shapes_that_show_as_much(self):
        for grammar in SAMPLES:
            paper = known_paper(grammar)
            for part, at in ((2, 2), (3, 1), (4, 2)):
                # Each shape is put where another row has it: it shows that only where it is so.
                for one, row in enumerate(paper[part]):
                    for other in paper[part]:
                        rows = list(paper[part])
                        rows[one] = row[:at] + other[at:]
                        wanted = self.shows(grammar, part, rows[one])
                        self.assertEqual(lets_by(grammar, put(paper, part, rows)), wanted)

    def shows(self, grammar, part, row):
        if part == 2:
            name, kind, shape = row
            return grammar.rule_of(shape[0]) == name and spelled_by(grammar, shape, name=name)[:1] == [kind]
        name, shape, node = row[0], row[-2], row[-1]
        if grammar.rule_of(shape[node]) != name:
            return False
        behind = nodes_of(grammar, shape)[node][3]
        return part == 3 or (spelled_plainly(grammar, shape) + [END])[behind] == row[1]

    def test_rows_too_many(self):
        grammar = grammar_of("a: p x | q c\n b: r y\n c: s c")
        paper = known_paper(grammar)
        self.assertEqual(paper[3], (("a", ("p",), 0),))
        for part, rows in ((1, paper[1] + (("c", ("s",)),)), (2, paper[2] + (("c", "x", ("s", "s")),)),
                           (3, paper[3] + (("b", ("r",), 0),)), (4, paper[4] + (("b", END, ("r",), 0),)),
                           (2, (("a", "y", ("p",)),) + paper[2]), (4, paper[4] + (("a", "x", ("p",), 0),)),
                           (4, paper[4] + (("x", END, ("p",), 0),)), (3, (("a", ("p",), 1),)), (3, (("a", ("p",), -1),))):
            self.assertFalse(lets_by(grammar, put(paper, part, rows)), (part, rows))

    def test_rings_that_are_none(self):
        grammar = grammar_of("a: p b e | q x\n b: r a | s y | t b x\n e: u | v e\n c: w c | k")
        paper = known_paper(grammar)
        self.assertIsNotNone(ring(grammar))
        for steps in ((("p", 1), ("r", 1)), (("r", 1), ("p", 1)), (("v", 1),)):
            self.assertTrue(lets_by(grammar, put(paper, 5, steps)), steps)
        for steps in ((("p", 2), ("r", 1)), (("p", 1),), (("t", 1),), (("w", 1),), (("v", 1), ("v", 1)), (("v", 0),), (("v", 2),),
                      (("p", 1), ("r", 1), ("p", 1), ("r", 1)), (("p", 1), ("r", 1), ("v", 1)), (("z", 1),), (("v", True),),
                      (("v",),), (["v", 1],), [("v", 1)], None):
            self.assertFalse(lets_by(grammar, paper[:5] + (steps, paper[6])), steps)

    def test_barren_beginning(self):
        grammar = READ["none"]
        self.assertEqual(known_paper(grammar), ("known", (), (), (), (), (), ()))
        self.assertTrue(lets_by(grammar, known_paper(grammar)))
        self.assertFalse(lets_by(SUMS, known_paper(grammar)))

    def test_without_the_beginning(self):
        for grammar in SAMPLES:
            paper = known_paper(grammar)
            for other in (paper[:3] + ((), (), (), ()), paper[:4] + ((), (), ()), paper[:3] + ((),) + paper[4:]):
                self.assertEqual(lets_by(grammar, other), other == paper)

    def test_forms(self):
        for grammar in (SUMS, NAMED["ring"], READ["apart"]):
            check_form(self, grammar, known_paper(grammar), 60)
            self.assertTrue(known_holds(grammar, known_paper(grammar)))
        self.assertFalse(known_holds(SUMS, ("known",)))
        for grammar in BARRED.values():
            self.assertFalse(known_holds(grammar, known_paper(SUMS)))
            plain = Grammar(grammar.kinds(), grammar.rules(), begin=grammar.begin())
            self.assertTrue(known_holds(plain, known_paper(plain)))
            self.assertFalse(known_holds(grammar, known_paper(plain)))
