"""Points 114 to 116: ledgers, what they reckon anew, and what they keep."""

import copy
import unittest
from random import Random

from tests.brute_grammars import NAMED, SUMS, grammar_of, shapes_up_to, tree_of
from tests.brute_reading import READ
from tests.brute_worths import reads_of, some_tallies
from tests.test_worths import given_for, refusal
from tongueyard.errors import NoGiven, NoWorth, RoundWorths
from tongueyard.ledger import Ledger
from tongueyard.tallies import completed
from tongueyard.trees import flat, numbered
from tongueyard.worths import worths

SAMPLES = [NAMED["half"], READ["amb"], READ["apart"], READ["round"], grammar_of("a: p b b | q x\n b: r a | s y | t")]


def makings(grammar, tally, tree, given):
    """By instances (what each is made of, what it reads), told straight from point 115."""
    top, nodes = tree
    homes = {part: (number, place) for number, (_, parts) in nodes.items() for place, part in enumerate(parts, 1)
             if not isinstance(part, tuple)}
    sums = {one[:3]: one[3] for one in tally[1]}
    found = {}
    for number in walked(tree):
        label, parts = nodes[number]
        for attribute, way, _, names in tally[0]:
            if grammar.rule_of(label) not in names:
                continue
            home, place = (number, 0) if way == "up" else homes.get(number, (None, None))
            if home is None:
                found[(number, attribute)] = ("given", dict(given)[attribute]), []
                continue
            expression = sums[(nodes[home][0], place, attribute)]
            read = [(home if at == 0 else nodes[home][1][at - 1], name) for at, name in reads_of(expression)]
            found[(number, attribute)] = (expression, read,
                                          [nodes[home][1][at - 1] for at in words_of(expression)]), read
    return found


def words_of(expression):
    if expression[0] == "word":
        return [expression[1]]
    return [place for part in expression[1:] if isinstance(part, tuple) for place in words_of(part)]


def walked(tree):
    top, nodes = tree
    order, due = [], [top]
    while due:
        number = due.pop()
        order.append(number)
        due += [part for part in nodes[number][1][::-1] if not isinstance(part, tuple)]
    return order


class Slow:
    """A ledger that reckons all anew, and tells by comparing."""

    def __init__(self):
        self.old, self.rows = {}, {}

    def lay(self, grammar, tally, tree, given):
        plain = dict_of_worths(grammar, tally, tree, given)
        made = makings(grammar, tally, tree, given)
        anew = [one for one in made if one not in self.old or self.old[one][0] != made[one][0]
                or any(self.rows.get(read) != plain[read] for read in made[one][1])]
        self.old, self.rows = made, plain
        return anew


def dict_of_worths(grammar, tally, tree, given):
    order = walked(tree)
    return {(order[at], attribute): worth for at, attribute, worth in worths(grammar, tally, flat(*tree), given=given)}


def renumbered(tree, chance):
    """The tree with other numbers for some nodes, its dict in another order."""
    top, nodes = tree
    new = {number: number if chance.random() < 0.7 else number + 100 * chance.randint(1, 3) for number in nodes}
    rows = [(new[number], (label, tuple(part if isinstance(part, tuple) else new[part] for part in parts)))
            for number, (label, parts) in nodes.items()]
    chance.shuffle(rows)
    return new[top], dict(rows)


class Ledgers(unittest.TestCase):
    def test_against_a_slow_one(self):
        chance = Random(5)
        deeds, refused, kept, grown = 0, 0, 0, 0
        for grammar in SAMPLES:
            tallies = some_tallies(grammar, 3, 10)
            shapes = [shape for name, _ in grammar.rules() for shape in sorted(shapes_up_to(grammar, 4, name))[:8]]
            for _ in range(14):
                tally = chance.choice(tallies)
                ledger, slow = None, Slow()
                for _ in range(9):
                    shape = chance.choice(shapes)
                    name = grammar.rule_of(shape[0])
                    tree = renumbered(numbered(grammar, tree_of(grammar, shape, name)), chance)
                    if chance.random() < 0.3:
                        tally = chance.choice(tallies)
                    given = given_for(grammar, tally, flat(*tree), chance)
                    if ledger is None:
                        ledger = Ledger(grammar, tally, given=given)
                        told = refusal(lambda: ledger.laid(tree))
                    else:
                        ahead = ledger.worths_now()
                        told = refusal(lambda: ledger.relaid(grammar, tally, tree, given=given))
                    wanted = refusal(lambda: slow.lay(grammar, tally, tree, given))
                    deeds += 1
                    if isinstance(wanted, tuple):
                        refused += 1
                        self.assertIs(told[0], wanted[0])
                        self.assertEqual(ledger.worths_now(), [] if len(ledger) == 0 else ahead)
                        continue
                    self.assertEqual(told, wanted)
                    kept += len(told) < len(ledger)
                    grown += len(told)
                    self.check_now(ledger, slow, (grammar, tally, tree, given))
        self.assertGreater(deeds, 500)
        self.assertGreater(refused, 30)
        self.assertGreater(kept, 60)
        self.assertGreater(grown, 600)

    def check_now(self, ledger, slow, made_of):
        grammar, tally, tree, given = made_of
        rows = ledger.worths_now()
        self.assertEqual(rows, [one + (slow.rows[one],) for one in makings(*made_of)])
        self.assertEqual(len(ledger), len(rows))
        self.assertEqual(repr(ledger), f"Ledger({len(rows)})")
        for node, attribute, worth in rows:
            self.assertEqual(ledger.worth_of(node, attribute), worth)
        other = Ledger(grammar, tally, given=given)
        if rows:
            self.assertNotEqual(other, ledger)
        self.assertEqual(other.laid(tree), [row[:2] for row in rows])
        self.assertEqual(other, ledger)
        self.assertEqual(other.laid(tree), [])
        self.assertEqual(other, ledger)

    def test_words_whole_texts(self):
        grammar = SUMS
        tally = completed(grammar, [("n", "up", "number", ("sum", "term"))], [("leaf", 0, "n", ("long", ("word", 1)))])
        ledger = Ledger(grammar, tally)
        self.assertEqual((ledger.worths_now(), len(ledger), repr(ledger)), ([], 0, "Ledger(0)"))
        shape = ("both", "one", "leaf", "leaf")

        def tree(one, other):
            return 5, {9: ("leaf", (("num", other),)), 5: ("both", (7, ("plus", "+"), 9)), 7: ("one", (8,)),
                       8: ("leaf", (("num", one),))}
        self.assertEqual(flat(*tree("1", "2"))[0], shape)
        self.assertEqual(ledger.laid(tree("1", "22")), [(5, "n"), (7, "n"), (8, "n"), (9, "n")])
        self.assertEqual(ledger.worths_now(), [(5, "n", 3), (7, "n", 1), (8, "n", 1), (9, "n", 2)])
        self.assertEqual(ledger.laid(tree("1", "22")), [])
        # Another text as long as the one there is reckoned anew, and nothing above it.
        self.assertEqual(ledger.laid(tree("1", "33")), [(9, "n")])
        self.assertEqual(ledger.laid(tree("1", "333")), [(5, "n"), (9, "n")])
        self.assertEqual(ledger.laid(tree("4" * 100, "333")), [(5, "n"), (7, "n"), (8, "n")])
        # Only the first signs count, but it is made of the whole text.
        self.assertEqual(ledger.laid(tree("4" * 99, "333")), [(8, "n")])
        self.assertEqual(ledger.worth_of(8, "n"), 60)

    def test_numbers_and_givens(self):
        grammar = grammar_of("a: p b b\n b: q x | r y")
        marks = [("d", "down", "number", ("a", "b")), ("u", "up", "number", ("a", "b"))]
        sums = [("p", place, "d", ("plus", ("at", 0, "d"), ("number", place))) for place in (1, 2)]
        sums += [("q", 0, "u", ("at", 0, "d")), ("r", 0, "u", ("number", 7)), ("p", 0, "u", ("at", 1, "u"))]
        tally = completed(grammar, marks, sums)
        tree = 1, {1: ("p", (2, 3)), 2: ("q", (("x", "x"),)), 3: ("r", (("y", "y"),))}
        ledger = Ledger(grammar, tally, given=(("d", 10),))
        self.assertEqual(len(ledger.laid(tree)), 6)
        self.assertEqual(ledger.relaid(grammar, tally, tree, given=(("d", 20),)),
                         [(1, "d"), (1, "u"), (2, "d"), (2, "u"), (3, "d")])
        self.assertEqual(ledger.laid(tree), [])
        # The node 3 is q now, node 2 went; the ones that read by other numbers are made of something else.
        other = 1, {1: ("p", (3, 4)), 3: ("q", (("x", "x"),)), 4: ("r", (("y", "y"),))}
        self.assertEqual(ledger.laid(other), [(1, "u"), (3, "d"), (3, "u"), (4, "d"), (4, "u")])
        with self.assertRaises(NoWorth) as caught:
            ledger.worth_of(2, "d")
        self.assertEqual((caught.exception.node, caught.exception.attribute), (2, "d"))

    def test_refused_and_as_it_was(self):
        grammar = grammar_of("a: p b\n b: r y | s b")
        marks = [("n", "down", "number", ("b",)), ("m", "up", "number", ("b",))]
        ring = completed(grammar, marks, [("p", 1, "n", ("at", 1, "m")), ("r", 0, "m", ("at", 0, "n")),
                                          ("s", 1, "n", ("number", 0))])
        plain = completed(grammar, marks, [("p", 1, "n", ("number", 2)), ("r", 0, "m", ("at", 0, "n")),
                                           ("s", 1, "n", ("number", 0))])
        whole = 40, {40: ("p", (7,)), 7: ("r", (("y", "y"),))}
        part = 7, {7: ("r", (("y", "y"),))}
        ledger = Ledger(grammar, ring, given=(("n", 3),))
        self.assertEqual(refusal(lambda: ledger.laid(whole)), (NoGiven, "n"))
        self.assertEqual(ledger.laid(part), [(7, "n"), (7, "m")])
        self.assertEqual(refusal(lambda: ledger.laid(whole)), (NoGiven, "n"))
        self.assertEqual(refusal(lambda: ledger.relaid(grammar, plain, part)), (NoGiven, "n"))
        self.assertEqual(refusal(lambda: ledger.relaid(grammar, plain, whole, given=(("z", 3),))), (NoGiven, "z"))
        told = refusal(lambda: ledger.relaid(grammar, ring, whole))
        self.assertEqual((told[0], sorted(told[1])), (RoundWorths, [(7, "m"), (7, "n")]))
        # Tally and given are still the ones of the last tree that was laid.
        self.assertEqual(ledger.worths_now(), [(7, "n", 3), (7, "m", 3)])
        self.assertEqual(ledger.laid(part), [])
        self.assertEqual(ledger.relaid(grammar, plain, whole), [(7, "n"), (7, "m")])
        self.assertEqual(refusal(lambda: ledger.laid(part)), (NoGiven, "n"))
        self.assertEqual(ledger.laid(whole), [])

    def test_an_up_that_a_choose_does_not_take(self):
        grammar = grammar_of("a: p b b\n b: q x | r y")
        tally = completed(grammar, [("u", "up", "number", ("a", "b"))],
                          [("p", 0, "u", ("choose", ("number", 1), ("at", 1, "u"), ("at", 2, "u"))),
                           ("q", 0, "u", ("number", 1)), ("r", 0, "u", ("number", 2))])
        ledger = Ledger(grammar, tally)
        ledger.laid((0, {0: ("p", (1, 2)), 1: ("q", (("x", "x"),)), 2: ("q", (("x", "x"),))}))
        self.assertEqual(ledger.laid((0, {0: ("p", (1, 2)), 1: ("q", (("x", "x"),)), 2: ("r", (("y", "y"),))})),
                         [(0, "u"), (2, "u")])
        self.assertEqual(ledger.worth_of(0, "u"), 1)

    def test_equal_and_kept(self):
        grammar = SUMS
        tally = completed(grammar, [("n", "up", "number", ("term",))], [])
        one, other = Ledger(grammar, tally), Ledger(grammar, tally)
        self.assertEqual(one, other)
        tree = numbered(grammar, (("one", "leaf"), (("num", "1"),)))
        held = copy.deepcopy(tree)
        one.laid(tree)
        self.assertNotEqual(one, other)
        tree[1].clear()
        self.assertEqual(one.laid(held), [])
        told = one.worths_now()
        told.clear()
        self.assertEqual(one.worths_now(), [(1, "n", 0)])
        other.relaid(grammar, completed(grammar, [("n", "up", "number", ("term",)), ("k", "down", "number", ("term",))],
                                        [("leaf", 0, "n", ("number", 0)),
                     ("one", 1, "k", ("number", 1)), ("both", 3, "k", ("number", 1))]), held)
        self.assertNotEqual(one, other)
        for thing in (None, [(1, "n", 0)], 1, "Ledger(1)", tally):
            self.assertFalse(one == thing)
