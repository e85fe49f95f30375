"""Point 21 by its judge, and the words of point 48 on papers of words."""

import copy
import unittest
from random import Random

from tests.brute import EMPTY, LANGUAGE, LARGE, SMALL, either, last_but, maybe, more, signs, some_kinds, then, word
from tests.test_word_papers import shows
from tongueyard.grammars import Grammar
from tongueyard.judge_words import word_fault, words_hold
from tongueyard.wordtables import word_paper, word_table

SAMPLES = SMALL + some_kinds(15, 60) + [LANGUAGE]
ANYTHING = [None, True, 0, 7, -1, 1.5, "", "ab", b"ab", [], [()], {}, {0: ()}, {1}, object(), str, len, range(2), ("a",),
            (0, (0,)), ((0,),), ((0, 0),), ((0, [0]),), ([0, (0,)],), ((None,),), ((None, ()),), ((None, []),),
            ((None, ((1, 2),)),), ((None, (("a",),)),), ((None, (("a", None),)),), ((7, ()),), ((True, (0,)),),
            ((0, (True,)),), ((0, ("0",)),), (((0,), 0),), ((0, (0,), 0),), ((0, (-1,)),), ((-1, (0,)),), ((None, (), ()),)]


def fault(kinds, table, pairs):
    """What is wrong, told as True or False; the form of what is told is looked at here."""
    told = word_fault(kinds, table, pairs)
    if told is not None and (type(told) is not str or told == ""):
        raise AssertionError(told)
    return told is not None


def renumbered(table, pairs, order):
    """The table and the pairs with the state order[k] called k."""
    place = {state: number for number, state in enumerate(order)}
    states = [(table[state][0], tuple((text, place[to]) for text, to in table[state][1])) for state in order]
    return tuple(states), tuple((place[state], places) for state, places in pairs)


class Shown(unittest.TestCase):
    def test_told_papers(self):
        for kinds in SAMPLES + some_kinds(16, 150) + [LARGE, [("x", last_but(8), False)]]:
            self.assertIsNone(word_fault(kinds, word_table(kinds), word_paper(kinds)), kinds)

    def test_pairs_in_any_order_and_twice(self):
        for kinds in SAMPLES:
            table, pairs = word_table(kinds), word_paper(kinds)
            for other in (pairs[::-1], pairs + pairs, pairs[1:] + pairs[:1]):
                self.assertIsNone(word_fault(kinds, table, other))

    def test_moves_turned_about_and_parted(self):
        for kinds in SAMPLES:
            table, pairs = word_table(kinds), word_paper(kinds)
            turned = tuple((kind, moves[::-1]) for kind, moves in table)
            parted = tuple((kind, tuple((sign, to) for text, to in moves for sign in text)) for kind, moves in table)
            self.assertIsNone(word_fault(kinds, turned, pairs))
            self.assertIsNone(word_fault(kinds, parted, pairs))

    def test_states_numbered_otherwise(self):
        chance = Random(1)
        for kinds in SAMPLES:
            table, pairs = word_table(kinds), word_paper(kinds)
            rest = list(range(1, len(table)))
            for _ in range(3):
                chance.shuffle(rest)
                self.assertIsNone(word_fault(kinds, *renumbered(table, pairs, [0] + rest)))
                if rest:
                    # The row without signs is that of state 0, whatever else is turned.
                    self.assertTrue(fault(kinds, *renumbered(table, pairs, rest + [0])))

    def test_states_doubled(self):
        for kinds in SAMPLES:
            table, pairs = word_table(kinds), word_paper(kinds)
            many = len(table)
            doubled = table + tuple((kind, tuple((text, to + many) for text, to in moves)) for kind, moves in table)
            more_pairs = pairs + tuple((state + many, places) for state, places in pairs)
            self.assertIsNone(word_fault(kinds, doubled, more_pairs))
            self.assertIsNone(word_fault(kinds, doubled, pairs))
            crossed = tuple((kind, tuple((text, (to + many) % (2 * many)) for text, to in moves)) for kind, moves in doubled)
            self.assertIsNone(word_fault(kinds, crossed, more_pairs))
            self.assertTrue(fault(kinds, crossed, pairs))

    def test_a_state_for_each_set_of_places(self):
        for kinds in SAMPLES:
            table, pairs = word_table(kinds), word_paper(kinds)
            numbers = {places: number for number, (_, places) in enumerate(pairs)}
            led = {}
            for number, (state, places) in enumerate(pairs):
                led[number] = (table[state][0], self.moves_by_places(kinds, places, numbers))
            own = tuple(led[number] for number in range(len(pairs)))
            self.assertIsNone(word_fault(kinds, own, tuple((numbers[places], places) for _, places in pairs)))

    def moves_by_places(self, kinds, places, numbers):
        from tests.test_word_papers import places_of
        texts, behind, _ = places_of(kinds)
        found = {}
        for place in sorted({other for one in places for other in behind.get(one, ())}):
            for sign in texts[place]:
                found.setdefault(sign, []).append(place)
        return tuple((sign, numbers[tuple(found[sign])]) for sign in sorted(found))

    def test_more_than_is_met(self):
        kinds = [("x", then(signs("a"), maybe(signs("b"))), False)]
        table, pairs = word_table(kinds), word_paper(kinds)
        self.assertEqual((len(table), pairs), (3, ((0, (0,)), (1, (1,)), (2, (2,)))))
        # A state and pairs to which nothing leads, places in no order, twice, or none.
        wide = table + ((None, ()), ("y", ()), (None, (("ba", 3), ("", 0))))
        for more_pairs in (((3, ()),), ((1, (1, 1)),), ((1, (2, 1)),), ((1, (1, 2)), (3, ()))):
            self.assertIsNone(word_fault(kinds, wide, pairs + more_pairs), more_pairs)
        for wrong in (((4, ()),), ((5, ()),), ((2, ()),), ((0, (0, 2)),), ((1, (0, 1)),), ((3, (3,)),), ((6, ()),)):
            self.assertTrue(fault(kinds, wide, pairs + wrong), wrong)


class Wrong(unittest.TestCase):
    def test_kinds(self):
        for kinds in SAMPLES:
            table, pairs = word_table(kinds), word_paper(kinds)
            names = [None, "", "nil"] + [name for name, _, _ in kinds]
            for at, (kind, moves) in enumerate(table):
                for name in names:
                    if name != kind:
                        self.assertTrue(fault(kinds, self.put(table, at, (name, moves)), pairs))

    def put(self, row, at, thing):
        return row[:at] + (thing,) + row[at + 1:]

    def test_moves(self):
        for kinds in SAMPLES:
            table, pairs = word_table(kinds), word_paper(kinds)
            for at, (kind, moves) in enumerate(table):
                for number, (text, to) in enumerate(moves):
                    for other in self.other_moves(text, to, len(table)):
                        wrong = moves[:number] + other + moves[number + 1:]
                        self.assertTrue(fault(kinds, self.put(table, at, (kind, wrong)), pairs), (kinds, wrong))
                for other in (("z", 0), ("%", 0), ("\t", 0), ("\u00e4", 0), ("?!", 0)):
                    self.assertTrue(fault(kinds, self.put(table, at, (kind, moves + (other,))), pairs))

    def other_moves(self, text, to, many):
        """What is put in the place of a move."""
        yield from ((), ((text[1:], to),), ((text + "~", to),), ((text + text[0], to),), ((text, to), (text[0], to)))
        yield from (((text, state),) for state in (-1, many, to + many, None, str(to), float(to), to >= 0, (to,)))
        yield from (((text, other),) for other in range(many) if other != to)
        yield from (((list(text), to),), ((tuple(text), to),), ((text.encode(), to),), ((None, to),), ((text, to, 0),), ((text,),))
        yield from (([text, to],), (text,), (None,), (to,))

    def test_pairs(self):
        for kinds in SMALL + some_kinds(17, 30):
            table, pairs = word_table(kinds), word_paper(kinds)
            for at, (state, places) in enumerate(pairs):
                self.assertTrue(fault(kinds, table, pairs[:at] + pairs[at + 1:]))
                for other in range(len(table)):
                    if other != state:
                        self.assertTrue(fault(kinds, table, self.put(pairs, at, (other, places))))
                for other in (places[1:], places + places[:1], places + (99,), places[::-1] + (0,), ()):
                    self.assertTrue(fault(kinds, table, self.put(pairs, at, (state, other))), (kinds, pairs, other))
                for other in ([state, places], (state, list(places)), (state,), (state, places, 0), (str(state), places),
                              (float(state), places), (state, tuple(map(str, places))), (state, tuple(map(float, places))),
                              (-1, places), (len(table), places), (None, places), (state, None), None, state):
                    self.assertTrue(fault(kinds, table, self.put(pairs, at, other)), other)

    def test_states_to_which_nothing_leads_have_their_form_too(self):
        for kinds in SMALL:
            table, pairs = word_table(kinds), word_paper(kinds)
            for state in ((None, (("a", 0),)), ("nil", (("ab", 0), ("c", 0))), (None, ())):
                self.assertIsNone(word_fault(kinds, table + (state,), pairs))
            for state in ((None, (("a", 0), ("a", 0))), (None, (("aa", 0),)), (None, (("ab", 0), ("cb", 1))), (None, (("%", 0),)),
                          (None, (("a", len(table) + 1),)), (None, (("a", -1),)), (7, ()), (None, [("a", 0)]), (None, (["a", 0],))):
                self.assertTrue(fault(kinds, table + (state,), pairs), state)

    def test_truths_are_no_numbers(self):
        kinds = [("x", signs("a"), False)]
        self.assertIsNone(word_fault(kinds, ((None, (("a", 1),)), ("x", ())), ((0, (0,)), (1, (1,)))))
        for table, pairs in ((((None, (("a", True),)), ("x", ())), ((0, (0,)), (1, (1,)))),
                             (((None, (("a", 1),)), ("x", ())), ((False, (0,)), (1, (1,)))),
                             (((None, (("a", 1),)), ("x", ())), ((0, (False,)), (1, (1,)))),
                             (((None, (("a", 1),)), ("x", ())), ((0, (0,)), (1, (True,)))),
                             (((None, (("a", 1),)), ("x", ())), ((0, (0,)), (True, (1,))))):
            self.assertTrue(fault(kinds, table, pairs))

    def test_lists_and_anything(self):
        for kinds in SMALL:
            table, pairs = word_table(kinds), word_paper(kinds)
            for thing in ANYTHING + [list(table), tuple(map(list, table)), list(pairs), tuple(map(list, pairs))]:
                self.assertTrue(fault(kinds, thing, pairs), thing)
                self.assertTrue(fault(kinds, table, thing), thing)
                self.assertTrue(fault(kinds, thing, thing), thing)
            for state in ANYTHING + [list(table[0]), (table[0][0], list(table[0][1]))]:
                self.assertTrue(fault(kinds, (state,) + table[1:], pairs), state)
                self.assertTrue(fault(kinds, table + (state,), pairs) or state == (None, ()), state)
            self.assertTrue(fault(kinds, (), ()))
            self.assertTrue(fault(kinds, table, ()))

    def test_against_the_words_of_the_point(self):
        chance = Random(2)
        for kinds in SMALL + some_kinds(18, 40):
            for _ in range(30):
                table, pairs = list(word_table(kinds)), list(word_paper(kinds))
                at = chance.randrange(len(table))
                kind, moves = table[at]
                moves = [(text, chance.randrange(len(table)) if chance.random() < 0.3 else to) for text, to in moves]
                table[at] = (chance.choice([kind, kind, None, "one"]), tuple(moves[chance.random() < 0.2:]))
                if chance.random() < 0.5:
                    pairs.append((chance.randrange(len(table)), chance.choice(pairs)[1]))
                if chance.random() < 0.2:
                    pairs.pop(chance.randrange(len(pairs)))
                table, pairs = tuple(table), tuple(pairs)
                self.assertEqual(not fault(kinds, table, pairs), shows(kinds, table, pairs), (kinds, table, pairs))

    def test_nothing_is_changed(self):
        for kinds in SMALL + [LANGUAGE]:
            for table, pairs in ((word_table(kinds), word_paper(kinds)), (list(word_table(kinds)), [[0, [0]]])):
                kept = copy.deepcopy((kinds, table, pairs))
                first = word_fault(kinds, table, pairs)
                self.assertEqual((kinds, table, pairs), kept)
                self.assertEqual(word_fault(kinds, table, pairs), first)

    def test_nested_repeating_and_empty_parts(self):
        deep = signs("ab")
        for at in range(9):
            deep = ("again", ("or", deep, signs("c"))) if at % 2 else more(deep)
        for pattern in (then(deep, signs("z")), more(then(maybe(EMPTY), either(EMPTY, signs("a")), word("bc")))):
            kinds = [("x", pattern, False), ("y", more(signs("a")), True)]
            self.assertIsNone(word_fault(kinds, word_table(kinds), word_paper(kinds)))


class Papers(unittest.TestCase):
    def test_words_hold(self):
        for kinds in SAMPLES[:20] + [LANGUAGE]:
            grammar = Grammar(kinds, [("rulename", [("p", ()), ("q", ("rulename",))])], bars=(("q", 1, "p"),))
            table, pairs = word_table(kinds), word_paper(kinds)
            self.assertIs(words_hold(grammar, ("words", table, pairs)), True)
            for paper in (("words",), ("words", table), ("words", table, pairs, ()), ("words", pairs, table),
                          ("words", table, pairs[1:]), ("words", list(table), pairs), ("words", table, list(pairs)),
                          ("words", None, None), ("words", (), ())):
                self.assertIs(words_hold(grammar, paper), False)

    def test_of_other_kinds_it_does_not_hold(self):
        one = Grammar([("x", signs("a"), False)], [("r", [("p", ())])])
        other = Grammar([("x", signs("b"), False)], [("r", [("p", ())])])
        paper = ("words", word_table(one.kinds()), word_paper(one.kinds()))
        self.assertTrue(words_hold(one, paper))
        self.assertFalse(words_hold(other, paper))
