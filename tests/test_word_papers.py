"""Point 21: the paper of a word table, each of its conditions checked with sets of places found plainly."""

import unittest

from tests.brute import (EMPTY, LANGUAGE, LARGE, SMALL, again, either, maybe, more, signs, some_kinds, then, word)
from tongueyard.patterns import SIGNS
from tongueyard.wordtables import word_paper, word_table

SAMPLES = SMALL + some_kinds(13, 80) + [LANGUAGE, LARGE]


def rows_of_places(pattern, behind):
    """All texts of places that a pattern spells where nothing is repeated more than twice: (places, ...)."""
    kind = pattern[0]
    if kind == "signs":
        behind.append(pattern[1])
        return {(len(behind) - 1,)}
    if kind == "empty":
        return {()}
    one = rows_of_places(pattern[1], behind)
    if kind == "or":
        return short(one | rows_of_places(pattern[2], behind))
    if kind == "then":
        other = rows_of_places(pattern[2], behind)
        return short({a + b for a in one for b in other})
    if kind == "maybe":
        return short(one | {()})
    twice = short(one | {a + b for a in one for b in one})
    return short(twice | {()}) if kind == "again" else twice


def short(rows):
    """Of rows as rich in beginnings, ends and neighbours as all of them just a few."""
    kept = set()
    seen = set()
    for row in sorted(rows, key=lambda row: (len(row), row)):
        traits = set(zip((0,) + row, row + (0,)))
        if not traits <= seen or row == ():
            kept.add(row)
            seen |= traits
    return kept


def places_of(kinds):
    """(signs of the places, what may stand behind each, for each kind what may end it)."""
    texts = [""]
    behind = {}
    ends = []
    for _, pattern, _ in kinds:
        rows = rows_of_places(pattern, texts)
        ends.append({row[-1] for row in rows})
        for row in rows:
            for one, other in zip((0,) + row, row):
                behind.setdefault(one, set()).add(other)
    return texts, behind, ends


def shows(kinds, table, pairs):
    """Whether pairs show a table, by the words of point 21."""
    texts, behind, ends = places_of(kinds)
    known = set(pairs)
    if (0, (0,)) not in known:
        return False
    for state, places in pairs:
        kind, moves = table[state]
        ended = [name for (name, _, _), last in zip(kinds, ends) if last & set(places)]
        if kind != (ended[0] if ended else None):
            return False
        next_places = sorted({other for one in places for other in behind.get(one, ())})
        for sign in SIGNS:
            led = tuple(other for other in next_places if sign in texts[other])
            to = [number for text, number in moves if sign in text]
            if bool(led) != bool(to) or (led and (to[0], led) not in known):
                return False
    return True


class WordPaper(unittest.TestCase):
    def test_it_shows_the_table(self):
        for kinds in SAMPLES:
            self.assertTrue(shows(kinds, word_table(kinds), word_paper(kinds)), kinds)

    def test_its_form(self):
        for kinds in SAMPLES:
            table, paper = word_table(kinds), word_paper(kinds)
            self.assertIs(type(paper), tuple)
            self.assertEqual(list(paper), sorted(set(paper)))
            self.assertEqual({state for state, _ in paper}, set(range(len(table))))
            for pair in paper:
                self.assertIs(type(pair), tuple)
                self.assertIs(type(pair[1]), tuple)
                self.assertEqual(list(pair[1]), sorted(set(pair[1])))

    def test_no_pair_can_be_left_out_and_no_state_is_another(self):
        for kinds in SMALL + some_kinds(14, 20):
            table, paper = word_table(kinds), word_paper(kinds)
            for pair in paper:
                self.assertFalse(shows(kinds, table, tuple(other for other in paper if other != pair)))
                if len(table) > 1:
                    turned = ((pair[0] + 1) % len(table), pair[1])
                    self.assertFalse(shows(kinds, table, tuple(turned if o == pair else o for o in paper)))

    def test_places_are_numbered_kind_by_kind_left_to_right(self):
        kinds = [("x", then(signs("a"), maybe(signs("b"))), False), ("y", more(signs("ac")), True)]
        self.assertEqual(word_paper(kinds), ((0, (0,)), (1, (1, 3)), (2, (3,)), (3, (2,))))
        self.assertEqual([kind for kind, _ in word_table(kinds)], [None, "x", "y", "x"])

    def test_empty_parts_have_no_places(self):
        kinds = [("x", then(EMPTY, either(EMPTY, signs("a")), signs("b")), False), ("y", signs("c"), False)]
        self.assertEqual(word_paper(kinds), ((0, (0,)), (1, (1,)), (2, (2,)), (3, (3,))))

    def test_sets_that_are_alike_have_one_state(self):
        kinds = [("x", either(word("ab"), word("cb")), False)]
        self.assertEqual(word_paper(kinds), ((0, (0,)), (1, (1,)), (1, (3,)), (2, (2,)), (2, (4,))))

    def test_nested_repeating(self):
        kinds = [("x", then(signs("a"), again(more(then(maybe(signs("b")), again(word("ca")))))), False)]
        self.assertTrue(shows(kinds, word_table(kinds), word_paper(kinds)))
