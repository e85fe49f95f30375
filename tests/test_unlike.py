"""Points 19 and 20: the least text that two lists of kinds, or two patterns, take unlike."""

import unittest

from tests.brute import (EMPTY, LANGUAGE, LARGE, SMALL, again, either, kind_of, last_but, lesser_texts, maybe, more,
                         short_pieces, signs, some_kinds, some_patterns, spelled, texts, then, word)
from tongueyard.patterns import SIGNS
from tongueyard.wordtables import beyond, lost_word, unlike_words, word_table

SAMPLES = SMALL + some_kinds(5, 25)


class UnlikeWords(unittest.TestCase):
    def test_against_all_lesser_texts(self):
        for kinds in SAMPLES:
            for others in SAMPLES:
                self.check(kinds, others)

    def check(self, kinds, others):
        found = unlike_words(kinds, others)
        self.assertEqual(found, unlike_words(others, kinds))
        if found is None:
            self.assertEqual(word_table(kinds), word_table(others))
            alike = texts("ab", 4)
        else:
            self.assertNotEqual(short_pieces(kinds, found), short_pieces(others, found))
            self.assertNotEqual(kind_of(kinds, found), kind_of(others, found))
            alike = lesser_texts("ab", found)
        for text in alike:
            self.assertEqual(short_pieces(kinds, text), short_pieces(others, text), (kinds, others, text))

    def test_none_where_all_is_alike(self):
        one = [("x", more(signs("a")), False), ("y", signs("b"), False)]
        self.assertIsNone(unlike_words(one, [("y", signs("b"), True), ("x", then(again(signs("a")), signs("a")), False)]))
        self.assertIsNone(unlike_words(LANGUAGE, LANGUAGE))

    def test_told_texts(self):
        a = [("x", signs("a"), False)]
        self.assertEqual(unlike_words(a, [("y", signs("a"), False)]), "a")
        self.assertEqual(unlike_words(a, [("x", signs("\na"), False)]), "\n")
        self.assertEqual(unlike_words(a, [("x", more(signs("a")), False)]), "aa")
        self.assertEqual(unlike_words(a, [("x", either(signs("a"), word("\nz"), word(" a")), False)]), "\nz")
        self.assertEqual(unlike_words(LANGUAGE, LANGUAGE[2:] + LANGUAGE[:2]), "loop")
        self.assertEqual(unlike_words(LANGUAGE, LANGUAGE[:-1]), "#\n")

    def test_large_kinds(self):
        other = [("w", either(last_but(8), word("b" * 9)), False), LARGE[1]]
        self.assertEqual(unlike_words(LARGE, other), "b" * 9)
        self.assertIsNone(unlike_words(LARGE, LARGE[::-1]))


def chain(many):
    return then(*[signs("b")] * many)


def chains(*many):
    """A pattern of the texts of b of which one of some numbers is a part."""
    return either(*[more(chain(one)) for one in many])


class LongPatterns(unittest.TestCase):
    """Chains of places, whose least unlike texts are long, and whose sets of places are many."""

    def test_the_text_that_both_spell_first(self):
        one, other = ("ph", more(chain(13)), False), ("xxuhynji", more(chain(12)), False)
        self.assertEqual(unlike_words([one, other], [other, one]), "b" * 156)
        self.assertEqual(unlike_words([other, one], [one, other]), "b" * 156)
        self.assertIsNone(unlike_words([one, other], [one, other]))

    def test_all_pairs_of_chains(self):
        for one in range(1, 13):
            for other in range(1, 13):
                kinds = [("x", more(chain(one)), False), ("y", more(chain(other)), False)]
                # Where one number is a part of the other one, a kind of the longer chain behind it has no text.
                both = next(many for many in range(1, 157) if many % one == 0 and many % other == 0)
                self.assertEqual(unlike_words(kinds, kinds[::-1]), "b" * both)
                self.assertEqual(beyond(more(chain(one)), more(chain(other))), "b" * one if one % other else None)
                swapped = [("y", more(chain(one)), False), ("x", more(chain(other)), False)]
                self.assertEqual(unlike_words(kinds, swapped), "b" * min(one, other))

    def test_tables_of_chains(self):
        for one, other in ((10, 13), (13, 12), (4, 6), (5, 5), (1, 7)):
            table = word_table([("x", more(chain(one)), False), ("y", more(chain(other)), False)])
            kind = ["x" if many % one == 0 else "y" if many % other == 0 else None for many in range(1, 200)]
            state = 0
            for wanted in kind:
                state = table[state][1][0][1]
                self.assertEqual(table[state][0], wanted)
            period = next(many for many in range(1, 200) if many % one == 0 and many % other == 0)
            self.assertEqual(len(table), 1 + (one if other % one == 0 else period))

    def test_alike_with_many_pairs_of_sets(self):
        # Each has a cycle of its own, all that is spelled is the same; so pairs of sets are many, pairs of states one.
        one, other = either(more(signs("b")), chains(13, 12)), either(more(signs("b")), chains(11, 7))
        self.assertIsNone(unlike_words([("x", one, False)], [("x", other, True)]))
        self.assertIsNone(beyond(one, other))
        self.assertIsNone(beyond(other, one))
        self.assertEqual(unlike_words([("x", one, False)], [("y", other, False)]), "b")
        self.assertEqual(beyond(either(one, EMPTY), other), "")

    def test_unlike_behind_many_pairs_of_sets(self):
        for one, other in (((6, 10), (15, 4)), ((13, 11), (12, 11)), ((2, 3), (3, 4)), ((7, 9, 5), (7, 10, 5))):
            wanted = [many for many in range(1, 2000) if any(many % part == 0 for part in one)
                      and not any(many % part == 0 for part in other)]
            self.assertEqual(beyond(chains(*one), chains(*other)), "b" * wanted[0])
        self.assertEqual(beyond(more(chain(1)), chains(2, 3, 5, 7, 11)), "b")
        self.assertEqual(beyond(more(chain(11)), chains(2, 3, 5, 7)), "b" * 11)
        self.assertIsNone(beyond(chains(12, 8), chains(4)))


class LostWord(unittest.TestCase):
    def test_against_all_lesser_texts(self):
        for kinds in SAMPLES:
            table = word_table(kinds)
            for others in SAMPLES[::3]:
                other = word_table(others)
                for kind, _, _ in kinds:
                    for name, _, _ in others:
                        self.check(kinds, kind, others, name, lost_word(table, kind, other, name))

    def check(self, kinds, kind, others, name, found):
        lesser = texts("ab", 5)
        if found is not None:
            self.assertEqual(kind_of(kinds, found), kind)
            self.assertNotEqual(kind_of(others, found), name)
            lesser = lesser_texts("ab", found)
        for text in lesser:
            self.assertFalse(kind_of(kinds, text) == kind and kind_of(others, text) != name, (kinds, others, text))

    def test_told_texts(self):
        table = word_table(LANGUAGE)
        fewer = word_table([kind for kind in LANGUAGE if kind[0] != "loop"])
        self.assertIsNone(lost_word(table, "id", fewer, "id"))
        self.assertEqual(lost_word(fewer, "id", table, "id"), "loop")
        self.assertEqual(lost_word(table, "loop", fewer, "loop"), "loop")
        self.assertEqual(lost_word(table, "num", table, "id"), "0")
        self.assertEqual(lost_word(table, "blank", table, "none"), "\n")
        self.assertIsNone(lost_word(table, "none", table, "id"))

    def test_the_same_text_of_another_kind_is_lost(self):
        table = word_table([("x", signs("a"), False)])
        other = word_table([("x", signs("b"), False), ("y", signs("a"), False)])
        self.assertEqual(lost_word(table, "x", other, "x"), "a")
        self.assertIsNone(lost_word(table, "x", other, "y"))


class Beyond(unittest.TestCase):
    def test_against_all_lesser_texts(self):
        patterns = some_patterns(21, 45) + [EMPTY, again(signs("ab")), more(EMPTY)]
        for one in patterns:
            for other in patterns:
                found = beyond(one, other)
                lesser = texts("ab", 5)
                if found is not None:
                    self.assertTrue(spelled(one, found) and not spelled(other, found), (one, other, found))
                    lesser = lesser_texts("ab", found)
                for text in lesser:
                    self.assertFalse(spelled(one, text) and not spelled(other, text), (one, other, text))

    def test_the_text_without_signs(self):
        self.assertEqual(beyond(maybe(signs("a")), signs("a")), "")
        self.assertIsNone(beyond(signs("a"), maybe(signs("a"))))
        self.assertEqual(beyond(EMPTY, signs("a")), "")
        self.assertIsNone(beyond(EMPTY, again(signs("a"))))
        self.assertEqual(beyond(again(signs("a")), EMPTY), "a")

    def test_the_line_end_is_first(self):
        self.assertEqual(beyond(signs(SIGNS), signs(SIGNS[1:])), "\n")
        self.assertEqual(beyond(signs(SIGNS), signs("\n !")), '"')
        self.assertEqual(beyond(again(signs("\n a")), again(signs("a"))), "\n")
        self.assertEqual(beyond(signs("ab"), signs("a")), "b")

    def test_large_patterns(self):
        one = last_but(8, SIGNS, SIGNS[:40])
        self.assertIsNone(beyond(one, last_but(8, SIGNS, SIGNS[:41])))
        self.assertEqual(beyond(one, last_but(8, SIGNS, SIGNS[1:])), "\n" * 8)
        self.assertEqual(beyond(last_but(8), last_but(7)), "ab" + "a" * 6)
