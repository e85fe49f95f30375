"""Point 105: the judge of worths, orders and rings, each of their conditions broken alone."""

import unittest
from itertools import permutations

from tests.bent import check_form
from tests.brute_grammars import BARRED, NAMED, SUMS, grammar_of, shapes_up_to, some_grammars, tree_of
from tests.brute_reading import READ
from tests.brute_worths import PlainOrders, PlainTree, plain_worth, reads_of, some_tallies
from tests.test_tallies import MARKS, SUMS_OF
from tongueyard.grammars import Grammar
from tongueyard.judge import lets_by
from tongueyard.judge_worths import worths_hold
from tongueyard.reckoning import worth_of
from tongueyard.tallies import completed, tally_of

TALLY = tally_of(SUMS, MARKS, SUMS_OF)
TREE = (("both", "both", "one", "leaf", "none", "leaf"), (("num", "12"), ("plus", "+"), ("plus", "+"), ("num", "345")))
SAMPLES = [NAMED["flat"], NAMED["half"], NAMED["ring"], NAMED["begun"], READ["amb"], READ["apart"], READ["round"]]


def rows_told(grammar, tally, tree, given=()):
    return tuple((node, attribute, worth) for (node, attribute), worth in PlainTree(grammar, tally, tree, given).rows.items())


class Expressions(unittest.TestCase):
    def test_against_plain_ones(self):
        numbers = [("number", n) for n in (0, 1, 7, 10 ** 9, 999999999, 31623)]
        texts = [("text", t) for t in ("", "a", "007", "7", "0", "123456789", "1234567890", "12a", "+1", "x" * 60, "9" * 59)]
        some = ("nobody",)
        for text in texts[1:7]:
            some = ("either", some, ("just", text))
        names = [("nobody",), ("just", ("text", "a")), ("just", ("text", "007")), some]
        made = [(word, one, other) for word in ("plus", "times", "less", "most", "same") for one in numbers for other in numbers]
        made += [(word, one, other) for word in ("join", "same") for one in texts for other in texts]
        made += [(word, one, other) for word in ("either", "off", "same") for one in names for other in names]
        made += [(word, one) for word in ("long", "digits", "just") for one in texts]
        made += [("shown", one) for one in numbers] + [("many", one) for one in names] + [("nobody",)]
        made += [("has", one, other) for one in names for other in texts]
        made += [("choose", one, ("text", "y"), ("text", "n")) for one in numbers]
        made += [("word", 1), ("word", 2), ("at", 0, "n"), ("at", 3, "m"), ("long", ("word", 2))]
        words, worths = {1: "ab", 2: "x" * 100}, {(0, "n"): 5, (3, "m"): ("a",)}
        for expression in made:
            told = worth_of(expression, worths, words)
            wanted = plain_worth(expression, lambda place, name: worths[(place, name)], lambda place: words[place])
            self.assertEqual((told, type(told)), (wanted, type(wanted)), expression)

    def test_names_that_are_too_many(self):
        many = [("%02d" % at) for at in range(50)]
        one, other = tuple(many[:40:2]) , tuple(many[1:50:2])
        self.assertEqual(worth_of(("either", ("at", 1, "s"), ("at", 2, "s")), {(1, "s"): one, (2, "s"): other}, {}),
                         tuple(sorted(one + other)[:40]))


class Worths(unittest.TestCase):
    def test_told_ones(self):
        given = (("depth", 4),)
        rows = rows_told(SUMS, TALLY, TREE, given)
        self.assertIn((0, "size", 5), rows)
        self.assertIn((0, "used", ("-", "12", "345")), rows)
        self.assertTrue(lets_by(SUMS, ("worth", TALLY, TREE, given, rows)))
        self.assertTrue(worths_hold(SUMS, ("worth", TALLY, TREE, given, rows)))
        for grammar in SAMPLES:
            for seed, tally in enumerate(some_tallies(grammar, 1, 12)):
                for shape in shapes_up_to(grammar, 5)[:6]:
                    tree = tree_of(grammar, shape)
                    given = tuple((mark[0], 3 + seed) for mark in tally[0]
                                  if mark[1] == "down" and grammar.rule_of(shape[0]) in mark[3])
                    plain = PlainTree(grammar, tally, tree, given)
                    rows = rows_told(grammar, tally, tree, given)
                    if plain.has_ring or not rows:
                        continue
                    self.assertTrue(lets_by(grammar, ("worth", tally, tree, given, rows)))
                    self.assertTrue(lets_by(grammar, ("worth", tally, tree, given[::-1], rows)))
                    for at, (node, attribute, worth) in enumerate(rows):
                        bent = rows[:at] + ((node, attribute, worth + 1),) + rows[at + 1:]
                        self.assertFalse(lets_by(grammar, ("worth", tally, tree, given, bent)))
                        self.assertFalse(lets_by(grammar, ("worth", tally, tree, given, rows[:at + 1] + rows[at:])))
                        self.check_left_out(grammar, tally, tree, given, rows, at)

    def check_left_out(self, grammar, tally, tree, given, rows, at):
        """Without a row it is let by just where no row behind reads that one."""
        plain = PlainTree(grammar, tally, tree, given)
        left = rows[:at] + rows[at + 1:]
        read = []
        for node, attribute, _ in left:
            found = plain.sum_of((node, attribute))
            if found is not None:
                read += [plain.spot(found[0], place, name) for place, name in reads_of(found[1])]
        wanted = len(left) > 0 and rows[at][:2] not in read
        self.assertEqual(lets_by(grammar, ("worth", tally, tree, given, left)), wanted)

    def test_rows_in_any_order_that_leans_on_rows_ahead(self):
        tally = completed(SUMS, [("size", "up", "number", ("sum", "term"))], [("leaf", 0, "size", ("number", 1))])
        tree = (("both", "one", "leaf", "none"), (("num", "1"), ("plus", "+")))
        rows = rows_told(SUMS, tally, tree)
        self.assertEqual(len(rows), 4)
        held = 0
        for order in permutations(rows):
            places = {row[0]: at for at, row in enumerate(order)}
            wanted = places[2] < places[1] < places[0] and places[3] < places[0]
            self.assertEqual(lets_by(SUMS, ("worth", tally, tree, (), order)), wanted)
            held += wanted
        self.assertEqual(held, 3)

    def test_what_a_choose_does_not_take_must_be_there_too(self):
        grammar = grammar_of("a: p b b\n b: q x | r")
        marks = [("n", "up", "number", ("a", "b"))]
        tally = tally_of(grammar, marks, [("p", 0, "n", ("choose", ("number", 0), ("at", 1, "n"), ("at", 2, "n"))),
                                          ("q", 0, "n", ("number", 1)), ("r", 0, "n", ("number", 2))])
        tree = (("p", "q", "r"), (("x", "x"),))
        self.assertTrue(lets_by(grammar, ("worth", tally, tree, (), ((1, "n", 1), (2, "n", 2), (0, "n", 2)))))
        self.assertFalse(lets_by(grammar, ("worth", tally, tree, (), ((2, "n", 2), (0, "n", 2)))))
        self.assertFalse(lets_by(grammar, ("worth", tally, tree, (), ((1, "n", 1), (2, "n", 2), (0, "n", 1)))))

    def test_given(self):
        rows = rows_told(SUMS, TALLY, TREE, (("depth", 4),))
        for given in ((), (("depth", 5),), (("depth", 4), ("depth", 4)), (("size", 4),), (("depth", 4), ("size", 4)),
                      (("depth", "4"),), (("depth", True),), (("depth", -1),), (("depth", 10 ** 9 + 1),), (("depth", 4.0),),
                      ((("depth", 4),),), [("depth", 4)], (["depth", 4],), (("z", 4),), (("depth",),), None, {"depth": 4}):
            self.assertFalse(lets_by(SUMS, ("worth", TALLY, TREE, given, rows)), given)
        # A top that bears no down has nothing given; any rule may be the top.
        tree = (("leaf",), (("num", "12"),))
        self.assertTrue(lets_by(SUMS, ("worth", TALLY, tree, (("depth", 0),), ((0, "depth", 0), (0, "shown", "12"), (0, "size", 2)))))
        self.assertTrue(lets_by(SUMS, ("worth", TALLY, tree, (("depth", 7),), ((0, "shown", "12"),))))
        self.assertFalse(lets_by(SUMS, ("worth", TALLY, tree, (), ((0, "shown", "12"),))))
        self.assertFalse(lets_by(SUMS, ("worth", TALLY, tree, (("depth", 7),), ((0, "used", ("12",)),))))
        self.assertFalse(lets_by(SUMS, ("worth", TALLY, tree, (("depth", 7),), ())))

    def test_tallies_and_trees_that_are_none(self):
        given = (("depth", 4),)
        rows = rows_told(SUMS, TALLY, TREE, given)
        for tally in (TALLY[:1], (TALLY[1], TALLY[0]), (TALLY[0], TALLY[1][:-1]), (TALLY[0], TALLY[1][::-1]), list(TALLY), None,
                      (TALLY[0][::-1], TALLY[1]), (TALLY[0], TALLY[1] + TALLY[1][:1])):
            self.assertFalse(lets_by(SUMS, ("worth", tally, TREE, given, rows)))
        for tree in ((TREE[0], TREE[1][:-1]), (TREE[0][:-1], TREE[1]), (TREE[0], TREE[1][::-1]), TREE[:1], list(TREE), None, ((), ()),
                     (TREE[0], (("num", "1x"),) + TREE[1][1:]), (("z",), ()), (TREE[0], [*TREE[1]])):
            self.assertFalse(lets_by(SUMS, ("worth", TALLY, tree, given, rows)))
        for node, attribute in ((9, "size"), (-1, "size"), (0, "shown"), (0, "z"), (3, "used"), (True, "size")):
            self.assertFalse(lets_by(SUMS, ("worth", TALLY, TREE, given, rows + ((node, attribute, 0),))))
        check_form(self, SUMS, ("worth", TALLY, TREE, given, rows), 150)

    def test_bars(self):
        grammar = BARRED["sums"]
        marks = [("n", "up", "number", ("a", "b"))]
        tally = completed(grammar, marks, [])
        shape = shapes_up_to(grammar, 4)[0]
        tree = tree_of(grammar, shape)
        rows = rows_told(grammar, tally, tree)
        self.assertTrue(lets_by(grammar, ("worth", tally, tree, (), rows)))
        barred = (("p", "r", "p", "r", "r"), tree_of(grammar, ("p", "r", "p", "r", "r"))[1])
        self.assertFalse(lets_by(grammar, ("worth", tally, barred, (), ((1, "n", 0),))))
        plain = Grammar(grammar.kinds(), grammar.rules(), begin=grammar.begin())
        self.assertTrue(worths_hold(plain, PlainOrders(grammar, tally).paper(tally)))
        for paper in (PlainOrders(grammar, tally).paper(tally), ("orders", tally, ()), ("round", tally, (), ())):
            self.assertFalse(lets_by(grammar, paper))
            self.assertFalse(worths_hold(grammar, paper))


def papers():
    found = []
    for grammar in SAMPLES + some_grammars(48, 30):
        for tally in some_tallies(grammar, 2, 6):
            plain = PlainOrders(grammar, tally)
            if all(len(plain.occurrences(label)) <= 12 for label in plain.rows):
                found.append((grammar, tally, plain.paper(tally)))
    return found


PAPERS = papers()


class Orders(unittest.TestCase):
    def test_told_ones(self):
        words = [paper[0] for _, _, paper in PAPERS]
        self.assertGreater(words.count("orders"), 40)
        self.assertGreater(words.count("round"), 15)
        for grammar, _, paper in PAPERS:
            if paper[0] == "orders":
                for rows in (paper[2], paper[2][::-1], paper[2] + paper[2]):
                    self.assertTrue(lets_by(grammar, ("orders", paper[1], rows)))
                self.assertFalse(lets_by(grammar, ("round", paper[1], (("z", ()),), ((0, "m"),))))

    def test_each_row_left_out(self):
        for grammar, _, paper in PAPERS:
            if paper[0] == "orders":
                for at in range(len(paper[2])):
                    rows = paper[2][:at] + paper[2][at + 1:]
                    self.assertFalse(lets_by(grammar, ("orders", paper[1], rows)))

    def test_orders_bent(self):
        for grammar, tally, paper in PAPERS:
            if paper[0] != "orders":
                continue
            plain = PlainOrders(grammar, tally)
            for at, (label, choice, order) in enumerate(paper[2]):
                edges = plain.edges(label, choice)
                others = [order[:one] + order[one + 1:] for one in range(len(order))] + [order + order[:1], order + ((9, "z"),)]
                others += [order[:one] + order[one + 1:one + 2] + order[one:one + 1] + order[one + 2:]
                           for one in range(len(order) - 1)]
                for other in others:
                    wanted = sorted(other) == sorted(order) and all(
                        other.index(last) < other.index(one) for one, last in edges)
                    rows = paper[2][:at] + ((label, choice, other),) + paper[2][at + 1:]
                    self.assertEqual(lets_by(grammar, ("orders", tally, rows)), wanted)

    def test_rows_more(self):
        grammar = grammar_of("a: p b | q x\n b: r y")
        marks = [("n", "down", "number", ("a", "b")), ("m", "up", "number", ("a", "b"))]
        tally = completed(grammar, marks, [("q", 0, "m", ("at", 0, "n")), ("r", 0, "m", ("number", 1))])
        paper = PlainOrders(grammar, tally).paper(tally)
        self.assertEqual(paper[0], "orders")
        self.assertTrue(lets_by(grammar, paper))
        # A choice that no tree makes, with its order: the relation that comes of it is there already.
        row = ("p", ((("n", "m"),),), ((0, "n"), (1, "n"), (1, "m"), (0, "m")))
        self.assertTrue(lets_by(grammar, ("orders", tally, paper[2] + (row,))))
        for choice in (((("m", "n"),),), ((("n", "z"),),), ((("z", "m"),),), ((("m", "m"),),), ((("n", "n"),),), (((None, "m"),),), ((("n", "m"), ("n", "m")),), (), ((), ()), ((("n", "m", "n"),),), ([],),
                       (None,), ((["n", "m"],),)):
            self.assertFalse(lets_by(grammar, ("orders", tally, paper[2] + (("p", choice, row[2]),))))
        for label in ("z", None, ("p",), "a"):
            self.assertFalse(lets_by(grammar, ("orders", tally, paper[2] + ((label, (), ()),))))
        # A relation more of a rule asks for all choices with it.
        deep = grammar_of("a: p b\n b: r y | s b")
        marks = [("n", "down", "number", ("b",)), ("m", "up", "number", ("b",))]
        tally = completed(deep, marks, [("r", 0, "m", ("number", 1)), ("p", 1, "n", ("number", 0)), ("s", 1, "n", ("at", 0, "n")),
                                        ("s", 0, "m", ("at", 1, "m"))])
        paper = PlainOrders(deep, tally).paper(tally)
        more = ("s", ((("n", "m"),),), ((0, "n"), (1, "n"), (1, "m"), (0, "m")))
        self.assertTrue(lets_by(deep, paper))
        self.assertFalse(lets_by(deep, ("orders", tally, paper[2] + (more,))))
        self.assertTrue(lets_by(deep, ("orders", tally, paper[2] + (more, ("p", more[1], ((1, "n"), (1, "m")))))))

    def test_rows_of_labels_that_are_not_clean(self):
        grammar = grammar_of("a: p x | q b\n b: r b")
        tally = tally_of(grammar, [], [])
        self.assertTrue(lets_by(grammar, ("orders", tally, (("p", (), ()),))))
        self.assertFalse(lets_by(grammar, ("orders", tally, (("p", (), ()), ("q", ((),), ())))))
        self.assertFalse(lets_by(grammar, ("orders", tally, ())))
        self.assertFalse(lets_by(grammar, ("round", tally, (("r", (0,)),), ((0, "n"),))))

    def test_never_of_a_ring(self):
        for grammar, tally, paper in PAPERS:
            if paper[0] == "round":
                plain = PlainOrders(grammar, tally)
                rows = tuple((label, choice, plain.order(label, choice) or tuple(plain.occurrences(label)))
                             for label, choice in plain.all_rows()[1])
                self.assertFalse(lets_by(grammar, ("orders", tally, rows)))

    def test_forms(self):
        seen = 0
        for grammar, _, paper in PAPERS:
            if seen < 3 and paper[0] == "orders" and any(choice and choice[0] for _, choice, _ in paper[2]):
                check_form(self, grammar, paper, 80)
                seen += 1
        self.assertEqual(seen, 3)


class Rounds(unittest.TestCase):
    def test_told_ones_and_circles_bent(self):
        for grammar, tally, paper in PAPERS:
            if paper[0] != "round":
                continue
            self.assertTrue(lets_by(grammar, paper))
            plain = PlainOrders(grammar, tally)
            rows, circle = paper[2:]
            made = []
            for label, parts in rows:
                made.append(plain.comes_of(label, [made[part] for part in parts]))
            edges = plain.edges(rows[-1][0], [made[part] for part in rows[-1][1]])
            others = [circle[at:] + circle[:at] for at in range(len(circle))] + [circle[::-1], circle * 2, (), circle[1:]]
            others += [circle[:at] + (one,) + circle[at + 1:] for at in range(len(circle))
                       for one in plain.occurrences(rows[-1][0])]
            for other in others:
                wanted = len(other) > 0 and len(set(other)) == len(other) and all(
                    (other[at - 1], other[at]) in edges for at in range(len(other)))
                self.assertEqual(lets_by(grammar, ("round", tally, rows, other)), wanted)

    def test_rows_bent(self):
        grammar = grammar_of("a: p b b | q x\n b: r y | s a")
        marks = [("n", "down", "number", ("b",)), ("m", "up", "number", ("b",))]
        tally = completed(grammar, marks, [("p", 1, "n", ("at", 2, "m")), ("p", 2, "n", ("at", 1, "m")),
                                           ("r", 0, "m", ("at", 0, "n")), ("s", 0, "m", ("number", 1))])
        rows = (("r", ()), ("q", ()), ("s", (1,)), ("p", (0, 0)))
        circle = ((1, "n"), (2, "m"), (2, "n"), (1, "m"))
        self.assertTrue(lets_by(grammar, ("round", tally, rows, circle)))
        for parts in ((0, 2), (2, 0), (2, 2), (0,), (0, 0, 0), (0, 1), (1, 0), (0, 3), (0, -1), (0, True), (False, False), (0, 9), [0, 0], ()):
            self.assertFalse(lets_by(grammar, ("round", tally, rows[:-1] + (("p", parts),), circle)), parts)
        for other in (rows[1:], rows[::-1], (), rows[:-1], rows + (("r", ()),), (("r", (0,)),) + rows[1:]):
            self.assertFalse(lets_by(grammar, ("round", tally, other, circle)))
        self.assertTrue(lets_by(grammar, ("round", tally, (("r", ()), ("r", ()), ("p", (1, 0))), circle)))
        check_form(self, grammar, ("round", tally, rows, circle))

    def test_a_circle_of_one(self):
        grammar = grammar_of("a: p b\n b: r y")
        marks = [("n", "down", "number", ("b",)), ("m", "up", "number", ("b",))]
        tally = completed(grammar, marks, [("p", 1, "n", ("at", 1, "m")), ("r", 0, "m", ("at", 0, "n"))])
        rows = (("r", ()), ("p", (0,)))
        self.assertTrue(lets_by(grammar, ("round", tally, rows, ((1, "n"), (1, "m")))))
        self.assertFalse(lets_by(grammar, ("round", tally, rows, ((1, "n"),))))
        self.assertFalse(lets_by(grammar, ("round", tally, rows, ((1, "n"), (1, "m"), (1, "n"), (1, "m")))))
