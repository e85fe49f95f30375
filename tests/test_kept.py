"""Point 2: what is handed in stays, what is told is the asker's own, the same asked again is told alike."""

import copy
import unittest

from tests.brute import LANGUAGE, LARGE, SMALL, more, signs, word
from tongueyard.cutting import cut_words, first_piece, is_good, pieces_of
from tongueyard.gaps import gap_breaks, gap_holds
from tongueyard.names import fresh, is_name
from tongueyard.patterns import is_pattern, least_spelled, only_text, spells, spells_none
from tongueyard.wordtables import (beyond, least_apart, least_row, least_word, lost_word, state_of, unlike_words,
                                   word_paper, word_table)

KINDS = SMALL + [LANGUAGE, LARGE]


def all_asked(kinds, others):
    """All questions of this stage, of two lists of kinds."""
    table, other = word_table(kinds), word_table(others)
    pattern = kinds[0][1]
    text = "ab7 ->\n#ab\ncd" * 14
    return [
        table, word_paper(kinds), state_of(table, text), state_of(table, ""), least_row(table, len(table) - 1),
        least_apart(table, 0, 1), least_word(table, kinds[0][0]), unlike_words(kinds, others),
        lost_word(table, kinds[0][0], other, others[0][0]), beyond(pattern, others[0][1]),
        first_piece(table, text, 1), pieces_of(table, text), cut_words(kinds, text), is_good(table, "a", "a"),
        gap_holds(kinds, "a", " ", "b"), gap_breaks(kinds, "a", "", "b"), is_pattern(pattern), spells(pattern, text),
        spells_none(pattern), least_spelled(pattern), only_text(pattern), is_name(kinds[0][0]), fresh("a", ["aaa"]),
    ]


class Kept(unittest.TestCase):
    def test_the_same_asked_again_is_told_alike_and_changes_nothing(self):
        for kinds in KINDS:
            for others in KINDS[-2:]:
                copies = copy.deepcopy(kinds), copy.deepcopy(others)
                first = all_asked(kinds, others)
                self.assertEqual((kinds, others), copies)
                self.assertEqual(all_asked(kinds, others), first)
                self.assertEqual(all_asked(*copies), first)

    def test_what_is_told_is_a_new_list(self):
        table = word_table(LANGUAGE)
        for ask in (lambda: pieces_of(table, "ab 7"), lambda: cut_words(LANGUAGE, "ab 7")):
            told = ask()
            self.assertIs(type(told), list)
            wanted = list(told)
            told.clear()
            self.assertEqual(ask(), wanted)

    def test_kinds_changed_afterwards_change_nothing(self):
        kinds = [("a", more(signs("a")), False), ("b", word("ab"), True)]
        table, paper = word_table(kinds), word_paper(kinds)
        text = cut_words(kinds, "aabab")
        kinds.pop()
        kinds.append(("c", signs("c"), False))
        self.assertEqual(table, word_table([("a", more(signs("a")), False), ("b", word("ab"), True)]))
        self.assertEqual(paper, word_paper([("a", more(signs("a")), False), ("b", word("ab"), True)]))
        self.assertEqual(text, [("a", "aa"), ("", "b")])
        self.assertNotEqual(word_table(kinds), table)

    def test_tables_are_tuples_throughout(self):
        def check(thing):
            self.assertIn(type(thing), (tuple, str, int, type(None)))
            if isinstance(thing, tuple):
                for part in thing:
                    check(part)
        for kinds in KINDS:
            check(word_table(kinds))
            check(word_paper(kinds))

    def test_texts_of_two_hundred_signs(self):
        for kinds in KINDS:
            table = word_table(kinds)
            for text in ("a" * 200, "ab" * 100, "b" * 200, "a7 " * 66 + "->", "\n" * 200, "?" * 200):
                found = pieces_of(table, text)
                self.assertEqual("".join(piece for _, piece, _ in found), text)
                names = [name for name, _, _ in kinds] + [""]
                self.assertTrue(all(kind in names and piece and look > 0 for kind, piece, look in found))
