"""Points 106 to 110: worths of trees, and on what they hang."""

import unittest
from random import Random

from tests.brute_grammars import BARRED, NAMED, SUMS, grammar_of, shapes_up_to, some_grammars, tree_of
from tests.brute_reading import READ
from tests.brute_worths import PlainTree, plain_worth, reads_of, some_tallies
from tests.test_tallies import MARKS, SUMS_OF
from tongueyard.errors import NoGiven, NoTree, NoWorth, RoundWorths
from tongueyard.judge import lets_by
from tongueyard.tallies import completed, tally_of
from tongueyard.trees import nodes_of, part_at, put_at
from tongueyard.worths import hangs_on, why, worths

TALLY = tally_of(SUMS, MARKS, SUMS_OF)
TREE = (("both", "both", "one", "leaf", "none", "leaf"), (("num", "12"), ("plus", "+"), ("plus", "+"), ("num", "345")))
SAMPLES = [NAMED["half"], NAMED["ring"], NAMED["begun"], READ["amb"], READ["apart"], READ["round"], NAMED["nullable"]]


def refusal(call):
    try:
        return call()
    except NoGiven as found:
        return NoGiven, found.attribute
    except NoWorth as found:
        return NoWorth, found.node, found.attribute
    except RoundWorths as found:
        return RoundWorths, found.circle


def given_for(grammar, tally, tree, chance):
    name = grammar.rule_of(tree[0][0])
    pairs = [(attribute, chance.randint(0, 9)) for attribute, way, _,
             names in tally[0] if way == "down" and name in names]
    chance.shuffle(pairs)
    return tuple(pairs)


def cases(seed, most, many):
    """Trees with tallies and what is given, of whatever rule."""
    chance = Random(seed)
    for grammar in SAMPLES + some_grammars(seed, 12):
        for tally in some_tallies(grammar, seed, many):
            for name, _ in grammar.rules():
                shapes = sorted(shapes_up_to(grammar, most, name))
                for shape in chance.sample(shapes, min(3, len(shapes))):
                    tree = tree_of(grammar, shape, name)
                    yield grammar, tally, tree, given_for(grammar, tally, tree, chance)


def in_order(grammar, tally, tree):
    return [(node, attribute) for node, label in enumerate(tree[0]) for attribute, _, _, names in tally[0]
            if grammar.rule_of(label) in names]


def reads(plain, instance):
    found = plain.sum_of(instance)
    return [plain.spot(found[0], place, name) for place, name in reads_of(found[1])] if found else []


def is_circle(plain, circle):
    return (isinstance(circle, list) and len(circle) > 0 and len(set(circle)) == len(circle)
            and all(circle[at] in reads(plain, circle[at - 1]) for at in range(len(circle))))


class Worths(unittest.TestCase):
    def test_by_hand(self):
        self.assertEqual(worths(SUMS, TALLY, TREE, given=(("depth", 4),))[0], (0, "size", 5))
        tally = completed(SUMS, [("size", "up", "number", ("sum", "term"))],
                          [("leaf", 0, "size", ("long", ("word", 1)))])
        self.assertEqual(worths(SUMS, tally, TREE),
                         [(0, "size", 5), (1, "size", 2), (2, "size", 2), (3, "size", 2), (4, "size", 0),
                          (5, "size", 3)])
        self.assertEqual(worths(SUMS, tally_of(SUMS, [], []), TREE), [])

    def test_against_plain_ones(self):
        seen, rings = 0, 0
        for grammar, tally, tree, given in cases(3, 5, 14):
            plain = PlainTree(grammar, tally, tree, given)
            told = refusal(lambda: worths(grammar, tally, tree, given=given))
            if plain.has_ring:
                rings += 1
                self.assertIs(told[0], RoundWorths)
                self.assertTrue(is_circle(plain, told[1]), told[1])
            else:
                seen += 1
                self.assertEqual(told, [instance + (plain.rows[instance],) for instance in in_order(grammar, tally,
                    tree)])
        self.assertGreater(seen, 600)
        self.assertGreater(rings, 60)

    def test_each_sort_of_expression(self):
        grammar = grammar_of("a: p x b y | q\n b: r x | s a")
        marks = [("n", "up", "number", ("a", "b")), ("t", "up", "text", ("a",)), ("s", "up", "names", ("b", "a")),
                 ("d", "down", "text", ("b",)), ("e", "down", "names", ("a", "b"))]
        two = ("either", ("just", ("word", 1)), ("just", ("text", "b")))
        sums = [
            ("p", 0, "n", ("most", ("plus", ("at", 2, "n"), ("times", ("number", 3), ("long", ("word", 3)))),
                           ("number", 2))),
            ("p", 0, "t", ("join", ("word", 3), ("shown", ("at", 2, "n")))),
                ("p", 0, "s", ("either", ("at", 2, "s"), ("at", 0, "e"))),
            ("p", 2, "d", ("choose", ("has", ("at", 0, "e"), ("text", "k")), ("word", 1), ("text", "no"))),
                ("p", 2, "e", ("off", ("at", 0, "e"), ("just", ("text", "k")))),
            ("r", 0, "n", ("less", ("digits", ("at", 0, "d")), ("many", ("at", 0, "e")))), ("r", 0, "s", two),
            ("s", 0, "n", ("same", ("at", 0, "d"), ("text", "no"))), ("s", 0, "s", ("nobody",)),
                ("s", 1, "e", ("at", 0, "e"))]
        tally = completed(grammar, marks, sums)
        for given in ((), ("k",), ("a", "k", "z")):
            for shape, words in (("pr", "xxy"), ("psq", "xy"), ("pspr", "xxxyy"), ("q", "")):
                tree = (tuple(shape), tuple((kind, kind) for kind in words))
                plain = PlainTree(grammar, tally, tree, (("e", given),))
                told = worths(grammar, tally, tree, given=(("e", given),))
                self.assertEqual(told, [one + (plain.rows[one],) for one in in_order(grammar, tally, tree)])
                self.assertTrue(lets_by(grammar, ("worth", tally, tree, (("e", given),),
                                                  tuple(why(grammar, tally, tree, 0, "s", given=(("e", given),))))))
                for node, attribute, worth in told:
                    found = plain.sum_of((node, attribute))
                    if found:
                        self.assertEqual(worth, plain_worth(found[1], lambda place,
                                                            name: plain.rows[plain.spot(found[0], place, name)],
                                                            lambda place: plain.parts[found[0]][place - 1]))

    def test_long_chains(self):
        grammar = grammar_of("a: p x a | q")
        marks = [("n", "down", "number", ("a",)), ("m", "up", "number", ("a",))]
        tally = completed(grammar, marks, [("p", 2, "n", ("plus", ("at", 0, "n"), ("number", 1))),
                                           ("q", 0, "m", ("at", 0, "n"))])
        tree = (("p",) * 5000 + ("q",), (("x", "x"),) * 5000)
        told = worths(grammar, tally, tree, given=(("n", 7),))
        self.assertEqual(len(told), 10002)
        self.assertEqual(told[:2], [(0, "n", 7), (0, "m", 5007)])
        self.assertEqual(len(why(grammar, tally, tree, 0, "m", given=(("n", 7),))), 10002)
        self.assertEqual(hangs_on(grammar, tally, tree, 0, "m", given=(("n", 7),)), ([], ["n"]))

    def test_a_long_ring(self):
        grammar = grammar_of("z: o a\n a: p x a | q")
        marks = [("n", "down", "number", ("a",)), ("m", "up", "number", ("a",))]
        tally = completed(grammar, marks, [("o", 1, "n", ("at", 1, "m")), ("p", 2, "n", ("at", 0, "n")),
                                           ("q", 0, "m", ("at", 0, "n"))])
        told = refusal(lambda: worths(grammar, tally, (("o",) + ("p",) * 900 + ("q",), (("x", "x"),) * 900)))
        self.assertEqual((told[0], len(told[1])), (RoundWorths, 2 * 901))


class Given(unittest.TestCase):
    MARKS = [("b", "down", "number", ("a",)), ("a", "down", "text", ("a", "c")), ("u", "up", "number", ("a",)),
             ("d", "down", "names", ("c",))]
    GRAMMAR = grammar_of("a: p x | q a\n c: r a")

    def calls(self, tree, given):
        tally = completed(self.GRAMMAR, self.MARKS, [("r", 1, "b", ("number", 1)), ("p", 0, "u", ("at", 0, "b"))])
        return [lambda: worths(self.GRAMMAR, tally, tree, given=given),
                lambda: why(self.GRAMMAR, tally, tree, 0, "u", given=given),
                lambda: hangs_on(self.GRAMMAR, tally, tree, 9, "no", given=given)]

    def test_the_first_in_order(self):
        tree = (("q", "p"), (("x", "x"),))
        good = (("b", 3), ("a", "t"))
        self.assertEqual(self.calls(tree, good)[0](), self.calls(tree, good[::-1])[0]())
        for given, attribute in (
                ((), "b"), (good[:1], "a"), (good[1:], "b"), (good + good[:1], "b"), (good[:1] + (("a", 3),), "a"),
                                 ((("b", "t"), ("a", 3)), "b"),
                (good + (("u", 1),), "u"), (good + (("d", ()),), "d"), (good + (("z", 1), ("y", 1)), "z"),
                                 ((("z", 1),) + good, "z"),
                ((("z", 1), ("b", 3)), "a"), ((("z", 1), ("u", 1)) + good, "u"), ((("b", True), ("a", "t")), "b"),
                                 ((("b", -1), ("a", "t")), "b"),
                ((("b", 3), ("a", None)), "a"), ((("b", 10 ** 9 + 1), ("a", "t")), "b"),
                                 ((("b", 3), ("a", "x" * 61)), "a"), (good + (("a", "t"),), "a")):
            for call in self.calls(tree, given):
                self.assertEqual(refusal(call), (NoGiven, attribute), given)

    def test_of_each_top(self):
        tree = (("r", "p"), (("x", "x"),))
        for given, attribute in (((), "a"), ((("a", "t"),), "d"), ((("a", "t"), ("d", ("b", "a"))), "d"),
                                 ((("a", "t"), ("d", ()), ("b", 1)), "b")):
            self.assertEqual(refusal(self.calls(tree, given)[0]), (NoGiven, attribute))
        self.assertEqual(self.calls(tree, (("d", ("a", "b")), ("a", "t")))[0](),
                         [(0, "a", "t"), (0, "d", ("a", "b")), (1, "b", 1), (1, "a", "t"), (1, "u", 1)])

    def test_ahead_of_a_ring(self):
        grammar = grammar_of("a: p b\n b: r y")
        marks = [("n", "down", "number", ("b",)), ("m", "up", "number", ("b",))]
        tally = completed(grammar, marks, [("p", 1, "n", ("at", 1, "m")), ("r", 0, "m", ("at", 0, "n"))])
        tree = (("p", "r"), (("y", "y"),))
        for call, word in ((lambda given: worths(grammar, tally, tree, given=given), "worths"),
                           (lambda given: why(grammar, tally, tree, 7, "z", given=given), "why"),
                           (lambda given: hangs_on(grammar, tally, tree, 0, "n", given=given), "hangs")):
            self.assertEqual(refusal(lambda: call((("n", 1),))), (NoGiven, "n"), word)
            self.assertEqual(refusal(lambda: call((("q", 1),))), (NoGiven, "q"), word)
            found = refusal(lambda: call(()))
            self.assertEqual((found[0], sorted(found[1])), (RoundWorths, [(1, "m"), (1, "n")]), word)
        self.assertEqual(worths(grammar, tally, (("r",), (("y", "y"),)), given=(("n", 3),)), [(0, "n", 3), (0, "m", 3)])


class Why(unittest.TestCase):
    def test_rows_and_what_they_hang_on(self):
        chance = Random(2)
        seen = 0
        for grammar, tally, tree, given in cases(5, 5, 3):
            plain = PlainTree(grammar, tally, tree, given)
            if plain.has_ring:
                continue
            for instance in in_order(grammar, tally, tree)[:4]:
                rows = why(grammar, tally, tree, *instance, given=given)
                self.check_rows(plain, instance, rows)
                self.assertTrue(lets_by(grammar, ("worth", tally, tree, given, tuple(rows))))
                words, downs = hangs_on(grammar, tally, tree, *instance, given=given)
                self.check_hangs(grammar, tally, tree, plain, rows, words, downs)
                self.check_others(grammar, tally, tree, given, (instance, words, downs), chance)
                seen += 1
        self.assertGreater(seen, 500)

    def check_rows(self, plain, instance, rows):
        told = [row[:2] for row in rows]
        self.assertEqual(told[-1], instance)
        wanted, due = {instance}, [instance]
        while due:
            for one in reads(plain, due.pop()):
                if one not in wanted:
                    wanted.add(one)
                    due.append(one)
        self.assertEqual((set(told), len(told)), (wanted, len(wanted)))
        for at, row in enumerate(rows):
            self.assertEqual(plain.rows[row[:2]], row[2])
            self.assertTrue(all(one in told[:at] for one in reads(plain, row[:2])))

    def check_hangs(self, grammar, tally, tree, plain, rows, words, downs):
        def word_places(expression):
            if expression[0] == "word":
                return [expression[1]]
            return [place for part in expression[1:] if isinstance(part, tuple) for place in word_places(part)]
        numbers = self.word_numbers(grammar, tree)
        read = {numbers[(found[0], place)] for found in [plain.sum_of(row[:2]) for row in rows] if found
                for place in word_places(found[1])}
        self.assertEqual(words, sorted(read))
        tops = [row[1] for row in rows if row[0] == 0 and plain.sum_of(row[:2]) is None]
        self.assertEqual(downs, [mark[0] for mark in tally[0] if mark[0] in tops])

    def word_numbers(self, grammar, tree):
        numbers, left = {}, list(tree[0])

        def walk():
            node = len(tree[0]) - len(left)
            row = grammar.row_of(left.pop(0))
            for place, symbol in enumerate(row, 1):
                if grammar.is_kind(symbol):
                    numbers[(node, place)] = len(numbers)
                else:
                    walk()
        walk()
        return numbers

    def check_others(self, grammar, tally, tree, given, found, chance):
        """Whatever the other words and downs are, the instance has this worth."""
        instance, words, downs = found
        spelled = {"x": "x", "y": "y"}
        other_words = tuple((kind, text if at in words else spelled[kind]) for at, (kind, text) in enumerate(tree[1]))
        other_given = tuple((name, worth if name in downs else chance.randint(0, 99)) for name, worth in given)
        self.assertEqual(why(grammar, tally, (tree[0], other_words), *instance, given=other_given)[-1],
                         why(grammar, tally, tree, *instance, given=given)[-1])

    def test_words_that_are_read(self):
        grammar = SUMS
        marks = [("n", "up", "number", ("sum", "term")), ("t", "up", "text", ("sum",)),
                 ("d", "down", "number", ("sum",))]
        tally = completed(grammar, marks, [("leaf", 0, "n", ("long", ("word", 1))),
                                           ("both", 0, "t", ("choose", ("number", 0), ("word", 2), ("at", 1, "t"))),
                                           ("one", 0, "t", ("shown", ("at", 0, "d")))])
        given = (("d", 5),)
        self.assertEqual(hangs_on(grammar, tally, TREE, 0, "n", given=given), ([0, 3], []))
        # What a choose does not take is read, too.
        self.assertEqual(hangs_on(grammar, tally, TREE, 0, "t", given=given), ([1, 2], ["d"]))
        self.assertEqual(hangs_on(grammar, tally, TREE, 2, "t", given=given), ([], ["d"]))
        self.assertEqual(hangs_on(grammar, tally, TREE, 5, "n", given=given), ([3], []))
        self.assertEqual(hangs_on(grammar, tally, TREE, 0, "d", given=given), ([], ["d"]))
        self.assertEqual(why(grammar, tally, TREE, 0, "d", given=given), [(0, "d", 5)])
        self.assertEqual(why(grammar, tally, TREE, 4, "n", given=given), [(4, "n", 0)])
        long = (("one", "leaf"), (("num", "1" * 150),))
        self.assertEqual(why(grammar, tally, long, 0, "n", given=given), [(1, "n", 60), (0, "n", 60)])

    def test_downs_in_the_order_of_the_marks(self):
        grammar = grammar_of("a: p x")
        marks = [("z", "down", "number", ("a",)), ("b", "down", "number", ("a",)), ("u", "up", "number", ("a",))]
        tally = completed(grammar, marks, [("p", 0, "u", ("plus", ("at", 0, "b"), ("at", 0, "z")))])
        tree = (("p",), (("x", "x"),))
        self.assertEqual(hangs_on(grammar, tally, tree, 0, "u", given=(("b", 1), ("z", 2))), ([], ["z", "b"]))

    def test_no_worth(self):
        for call in (why, hangs_on):
            for node, attribute in ((9, "size"), (-1, "size"), (0, "z"), (0, ""), (3, "used"), (10 ** 29, "size")):
                self.assertEqual(refusal(lambda: call(SUMS, TALLY, TREE, node, attribute, given=(("depth", 4),))),
                                 (NoWorth, node, attribute))

    def test_no_tree(self):
        grammar = BARRED["sums"]
        tally = completed(grammar, [("n", "up", "number", ("a", "b"))], [])
        self.assertEqual(len(worths(grammar, tally, (("p", "r", "r"), (("y", "y"), ("x", "x"), ("y", "y"))))), 3)
        with self.assertRaises(NoTree):
            worths(grammar, tally, (("p", "r", "p", "r", "r"), (("y", "y"), ("x", "x"), ("y", "y"), ("x", "x"),
                ("y", "y"))))


class Parts(unittest.TestCase):
    def test_a_part_by_itself_and_put_otherwise(self):
        seen, changed = 0, 0
        for grammar, tally, tree, given in cases(7, 5, 4):
            plain = PlainTree(grammar, tally, tree, given)
            if plain.has_ring:
                continue
            for node, (_, _, _, _, end) in enumerate(nodes_of(grammar, tree[0], name=grammar.rule_of(tree[0][0]))):
                name = grammar.rule_of(tree[0][node])
                downs = tuple((mark[0],
                               plain.rows[(node,
                                           mark[0])]) for mark in tally[0] if mark[1] == "down" and name in mark[3])
                part = part_at(grammar, tree, node)
                alone = worths(grammar, tally, part, given=downs)
                self.assertEqual([(at + node, attribute, worth) for at, attribute, worth in alone],
                                 [one + (plain.rows[one],) for one in in_order(grammar, tally,
                                     tree) if node <= one[0] < end])
                seen += 1
                changed += self.check_other_part(grammar, tally, (tree, given), plain, node, downs)
        self.assertGreater(seen, 500)
        self.assertGreater(changed, 100)

    def check_other_part(self, grammar, tally, whole, plain, node, downs):
        """A part with the same ups put there leaves all others as they were."""
        tree, given = whole
        name = grammar.rule_of(tree[0][node])
        ups = [mark[0] for mark in tally[0] if mark[1] == "up" and name in mark[3]]
        many = 0
        for shape in sorted(shapes_up_to(grammar, 3, name))[:3]:
            other = tree_of(grammar, shape, name)
            alone = PlainTree(grammar, tally, other, downs)
            if alone.has_ring or [alone.rows[(0, up)] for up in ups] != [plain.rows[(node, up)] for up in ups]:
                continue
            put = put_at(grammar, tree, node, other)
            if PlainTree(grammar, tally, put, given).has_ring:
                continue
            end = nodes_of(grammar, tree[0], name=grammar.rule_of(tree[0][0]))[node][4]
            moved = len(other[0]) - (end - node)
            told = {row[:2]: row[2] for row in worths(grammar, tally, put, given=given)}
            for one in in_order(grammar, tally, tree):
                if not node <= one[0] < end:
                    self.assertEqual(told[(one[0] + (moved if one[0] >= end else 0), one[1])], plain.rows[one])
            many += 1
        return many
