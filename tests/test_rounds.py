"""Points 111 to 113: relations, orders and rounds, and tallies for one walk."""

import unittest

from tests.brute_grammars import BARRED, NAMED, SUMS, grammar_of, shapes_up_to, some_grammars, tree_of
from tests.brute_reading import READ, clean_labels
from tests.brute_worths import PlainOrders, PlainTree, some_tallies
from tests.test_worths import reads
from tongueyard.errors import Barred, RoundWorths, TooMany
from tongueyard.judge import lets_by
from tongueyard.known import least
from tongueyard.rounds import CHOICES, NODES, one_walk, relations, round_paper, shape_of_rows
from tongueyard.tallies import completed, due_sums, tally_of
from tongueyard.trees import is_shape, spelled_by
from tongueyard.worths import worths

SAMPLES = [NAMED["half"], NAMED["ring"], NAMED["begun"], NAMED["barren"], READ["amb"], READ["apart"], READ["round"],
           READ["void"]]


def cases(seed, many):
    for grammar in SAMPLES + some_grammars(seed, 25):
        for tally in some_tallies(grammar, seed, many):
            yield grammar, tally


def given_none(grammar, tally, shape):
    name = grammar.rule_of(shape[0])
    return tuple((mark[0], 0) for mark in tally[0] if mark[1] == "down" and name in mark[3])


def relation_of(grammar, tally, shape, name):
    """The relation of a tree of a shape, by going along what each instance reads."""
    plain = PlainTree(grammar, tally, tree_of(grammar, shape, name), given_none(grammar, tally, shape))
    found = []
    for up in [mark[0] for mark in tally[0] if mark[1] == "up" and name in mark[3]]:
        met, due = set(), [(0, up)]
        while due:
            for one in reads(plain, due.pop()):
                if one not in met:
                    met.add(one)
                    due.append(one)
        found += [(down, up) for down in [mark[0] for mark in tally[0] if mark[1] == "down" and name in mark[3]] if (0,
            down) in met]
    return tuple(sorted(found))


class Relations(unittest.TestCase):
    def test_against_choices_one_by_one(self):
        for grammar, tally in cases(1, 5):
            rows = relations(grammar, tally)
            made = PlainOrders(grammar, tally).all_rows()[0]
            self.assertEqual(sorted((grammar.rule_of(row[0]), row[2]) for row in rows),
                             sorted((grammar.rule_of(row[0]), row[2]) for row in made))
            self.assertIs(type(rows), list)
            for at, (label, parts, relation) in enumerate(rows):
                self.assertTrue(all(part < at for part in parts))
                names = [name for name in grammar.row_of(label) if not grammar.is_kind(name)]
                self.assertEqual([grammar.rule_of(rows[part][0]) for part in parts], names)
                self.assertEqual(relation, PlainOrders(grammar, tally).comes_of(label,
                    [rows[part][2] for part in parts]))
                self.assertEqual((type(parts), type(relation)), (tuple, tuple))

    def test_against_walks_over_small_trees(self):
        told = 0
        for grammar, tally in cases(2, 4):
            rows = relations(grammar, tally)
            known = {(grammar.rule_of(row[0]), row[2]) for row in rows}
            for name, _ in grammar.rules():
                for shape in sorted(shapes_up_to(grammar, 4, name))[:40]:
                    self.assertIn((name, relation_of(grammar, tally, shape, name)), known)
            for number, (label, _, relation) in enumerate(rows):
                shape = shape_of_rows(rows, number=number)
                name = grammar.rule_of(label)
                self.assertTrue(is_shape(grammar, shape, spelled_by(grammar, shape, name=name), name=name))
                self.assertEqual(relation_of(grammar, tally, shape, name), relation)
                told += len(relation) > 0
        self.assertGreater(told, 50)

    def test_the_limit(self):
        for grammar, tally in cases(3, 4):
            rows = relations(grammar, tally)
            by_name = {name: 0 for name, _ in grammar.rules()}
            for row in rows:
                by_name[grammar.rule_of(row[0])] += 1
            many = 0
            for labels in clean_labels(grammar).values():
                for label in labels:
                    ways = 1
                    for symbol in grammar.row_of(label):
                        ways *= by_name.get(symbol, 1)
                    many += ways
            if many > 0:
                for call in (relations, round_paper):
                    call(grammar, tally, limit=many)
                    with self.assertRaises(TooMany) as caught:
                        call(grammar, tally, limit=many - 1)
                    self.assertEqual(caught.exception.limit, many - 1)
            else:
                self.assertEqual((rows, round_paper(grammar, tally, limit=1)), ([], ("orders", tally, ())))

    def test_bars_and_defaults(self):
        self.assertEqual((CHOICES, NODES), (300, 120))
        for grammar in BARRED.values():
            tally = completed(grammar, [], [])
            for call in (relations, round_paper):
                for limit in ({}, {"limit": 1}):
                    with self.assertRaises(Barred) as caught:
                        call(grammar, tally, **limit)
                    self.assertEqual(caught.exception.label, grammar.bars()[0][0])
        # One label has more choices than there are for all by default.
        grammar = grammar_of("a: p b b b b b b\n b: q x | r y | s x y")
        marks = [("n", "down", "number", ("b",)), ("d", "down", "number", ("b",)), ("m", "up", "number", ("b",))]
        sums = [("q", 0, "m", ("at", 0, "n")), ("r", 0, "m", ("at", 0, "d")), ("s", 0, "m", ("number", 1))]
        sums += [("p", place, name, ("number", 1)) for place in range(1, 7) for name in "nd"]
        tally = tally_of(grammar, marks, sums)
        for call in (relations, round_paper):
            with self.assertRaises(TooMany) as caught:
                call(grammar, tally)
            self.assertEqual(caught.exception.limit, 300)
        self.assertEqual(len(relations(grammar, tally, limit=3 ** 6 + 3)), 4)


class Papers(unittest.TestCase):
    def test_let_by(self):
        words = []
        for grammar, tally in cases(4, 8):
            paper = round_paper(grammar, tally)
            self.assertTrue(lets_by(grammar, paper))
            words.append(paper[0])
            self.assertEqual(paper[0], PlainOrders(grammar, tally).paper(tally)[0])
            if paper[0] == "orders":
                for shape in sorted(shapes_up_to(grammar, 4))[:10]:
                    worths(grammar, tally, tree_of(grammar, shape), given=given_none(grammar, tally, shape))
                continue
            self.assertLessEqual(len(paper[2]), len(relations(grammar, tally)) + 1)
            shape = shape_of_rows(paper[2])
            with self.assertRaises(RoundWorths):
                worths(grammar, tally, tree_of(grammar, shape, grammar.rule_of(shape[0])),
                       given=given_none(grammar, tally, shape))
        self.assertGreater(words.count("orders"), 80)
        self.assertGreater(words.count("round"), 30)


class Shapes(unittest.TestCase):
    def test_numbers_and_limits(self):
        rows = [("q", (), ()), ("p", (0, 0), ())]
        for at in range(2, 12):
            rows.append(("p", (at - 1, at - 1), (("n", "m"),)))
        self.assertEqual(shape_of_rows(rows, number=0), ("q",))
        self.assertEqual(shape_of_rows(rows, number=1), ("p", "q", "q"))
        self.assertEqual(shape_of_rows(rows[:3]), ("p", "p", "q", "q", "p", "q", "q"))
        self.assertEqual(shape_of_rows([row[:2] for row in rows[:3]]), shape_of_rows(tuple(rows), number=2))
        self.assertEqual(len(shape_of_rows(rows, number=5)), 63)
        for number, many in ((6, 127), (11, 4095)):
            with self.assertRaises(TooMany) as caught:
                shape_of_rows(rows, number=number)
            self.assertEqual(caught.exception.limit, 120)
            self.assertEqual(len(shape_of_rows(rows, number=number, limit=many)), many)
            with self.assertRaises(TooMany) as caught:
                shape_of_rows(rows, number=number, limit=many - 1)
            self.assertEqual(caught.exception.limit, many - 1)
        with self.assertRaises(TooMany):
            shape_of_rows([("q", ())] + [("p", (at, at)) for at in range(200)])

    def test_to_the_limit(self):
        rows = [("q", ())] + [("p", (at,)) for at in range(130)]
        self.assertEqual(shape_of_rows(rows, number=119), ("p",) * 119 + ("q",))
        for number in (120, 121, None):
            with self.assertRaises(TooMany):
                shape_of_rows(rows, number=number)
        self.assertEqual(len(shape_of_rows(rows, limit=131)), 131)

    def test_least_ones(self):
        # Where there are no marks each rule has one relation, of a least tree.
        for grammar in SAMPLES:
            rows = relations(grammar, tally_of(grammar, [], []))
            self.assertEqual(sorted(grammar.rule_of(row[0]) for row in rows), sorted(least(grammar)))
            for number, row in enumerate(rows):
                name = grammar.rule_of(row[0])
                self.assertLessEqual(len(shape_of_rows(rows, number=number)), len(least(grammar)[name]))


class Walks(unittest.TestCase):
    def test_the_first_due_sum(self):
        grammar = grammar_of("a: p x b b | q b\n b: r y | s b")
        marks = [("n", "down", "number", ("b",)), ("d", "down", "number", ("b",)), ("m", "up", "number", ("a", "b"))]
        told = {one: ("number", 1) for one in due_sums(grammar, marks)}

        def walk(**others):
            sums = dict(told)
            for key, expression in others.items():
                sums[(key[0], int(key[1]), key[2])] = expression
            return one_walk(grammar, tally_of(grammar, marks, [key + (sums[key],) for key in sums]))
        self.assertIsNone(walk())
        self.assertIsNone(walk(p3n=("at", 2, "m"), s1n=("at", 0, "d"), p0m=("at", 3, "m"), r0m=("at", 0, "n")))
        self.assertEqual(walk(p2n=("at", 2, "m")), ("p", 2, "n"))
        self.assertEqual(walk(p2d=("at", 3, "m"), q1n=("at", 1, "m")), ("p", 2, "d"))
        self.assertEqual(walk(p3d=("plus", ("at", 2, "m"), ("at", 3, "m")), q1n=("at", 1, "m")), ("p", 3, "d"))
        self.assertEqual(walk(q1d=("choose", ("number", 1), ("number", 1), ("at", 1, "m"))), ("q", 1, "d"))
        self.assertEqual(walk(s1n=("less", ("at", 0, "n"), ("at", 1, "m"))), ("s", 1, "n"))

    def test_where_it_is_none_no_tree_has_a_ring(self):
        nones = 0
        for grammar, tally in cases(6, 8):
            found = one_walk(grammar, tally)
            reading = [one[:3] for one in tally[1] if one[1] > 0 and any(at >= one[1] for at,
                _ in PlainOrders(grammar, tally).sums[one[:3]])]
            self.assertEqual(found, reading[0] if reading else None)
            if found is None:
                nones += 1
                self.assertEqual(round_paper(grammar, tally)[0], "orders")
        self.assertGreater(nones, 20)

    def test_with_bars(self):
        grammar = BARRED["sums"]
        self.assertIsNone(one_walk(grammar, completed(grammar, [("n", "up", "number", ("a",))], [])))
        self.assertIsNone(one_walk(SUMS, ((), ())))
