"""Points 19 and 20: the least text that two lists of kinds, or two patterns, take unlike."""

import unittest

from tests.brute import (EMPTY, LANGUAGE, LARGE, SMALL, again, either, kind_of, last_but, lesser_texts, maybe, more,
                         short_pieces, signs, some_kinds, some_patterns, spelled, texts, then, word)
from tongueyard.patterns import SIGNS
from tongueyard.wordtables import beyond, lost_word, unlike_words, word_table

SAMPLES = SMALL + some_kinds(5, 25)


class UnlikeWords(unittest.TestCase):
    def test_against_all_lesser_texts(self):
        for kinds in SAMPLES:
            for others in SAMPLES:
                self.check(kinds, others)

    def check(self, kinds, others):
        found = unlike_words(kinds, others)
        self.assertEqual(found, unlike_words(others, kinds))
        if found is None:
            self.assertEqual(word_table(kinds), word_table(others))
            alike = texts("ab", 4)
        else:
            self.assertNotEqual(short_pieces(kinds, found), short_pieces(others, found))
            self.assertNotEqual(kind_of(kinds, found), kind_of(others, found))
            alike = lesser_texts("ab", found)
        for text in alike:
            self.assertEqual(short_pieces(kinds, text), short_pieces(others, text), (kinds, others, text))

    def test_none_where_all_is_alike(self):
        one = [("x", more(signs("a")), False), ("y", signs("b"), False)]
        self.assertIsNone(unlike_words(one, [("y", signs("b"), True), ("x", then(again(signs("a")), signs("a")), False)]))
        self.assertIsNone(unlike_words(LANGUAGE, LANGUAGE))

    def test_told_texts(self):
        a = [("x", signs("a"), False)]
        self.assertEqual(unlike_words(a, [("y", signs("a"), False)]), "a")
        self.assertEqual(unlike_words(a, [("x", signs("\na"), False)]), "\n")
        self.assertEqual(unlike_words(a, [("x", more(signs("a")), False)]), "aa")
        self.assertEqual(unlike_words(a, [("x", either(signs("a"), word("\nz"), word(" a")), False)]), "\nz")
        self.assertEqual(unlike_words(LANGUAGE, LANGUAGE[2:] + LANGUAGE[:2]), "loop")
        self.assertEqual(unlike_words(LANGUAGE, LANGUAGE[:-1]), "#\n")

    def test_large_kinds(self):
        other = [("w", either(last_but(8), word("b" * 9)), False), LARGE[1]]
        self.assertEqual(unlike_words(LARGE, other), "b" * 9)
        self.assertIsNone(unlike_words(LARGE, LARGE[::-1]))


class LostWord(unittest.TestCase):
    def test_against_all_lesser_texts(self):
        for kinds in SAMPLES:
            table = word_table(kinds)
            for others in SAMPLES[::3]:
                other = word_table(others)
                for kind, _, _ in kinds:
                    for name, _, _ in others:
                        self.check(kinds, kind, others, name, lost_word(table, kind, other, name))

    def check(self, kinds, kind, others, name, found):
        lesser = texts("ab", 5)
        if found is not None:
            self.assertEqual(kind_of(kinds, found), kind)
            self.assertNotEqual(kind_of(others, found), name)
            lesser = lesser_texts("ab", found)
        for text in lesser:
            self.assertFalse(kind_of(kinds, text) == kind and kind_of(others, text) != name, (kinds, others, text))

    def test_told_texts(self):
        table = word_table(LANGUAGE)
        fewer = word_table([kind for kind in LANGUAGE if kind[0] != "loop"])
        self.assertIsNone(lost_word(table, "id", fewer, "id"))
        self.assertEqual(lost_word(fewer, "id", table, "id"), "loop")
        self.assertEqual(lost_word(table, "loop", fewer, "loop"), "loop")
        self.assertEqual(lost_word(table, "num", table, "id"), "0")
        self.assertEqual(lost_word(table, "blank", table, "none"), "\n")
        self.assertIsNone(lost_word(table, "none", table, "id"))

    def test_the_same_text_of_another_kind_is_lost(self):
        table = word_table([("x", signs("a"), False)])
        other = word_table([("x", signs("b"), False), ("y", signs("a"), False)])
        self.assertEqual(lost_word(table, "x", other, "x"), "a")
        self.assertIsNone(lost_word(table, "x", other, "y"))


class Beyond(unittest.TestCase):
    def test_against_all_lesser_texts(self):
        patterns = some_patterns(21, 45) + [EMPTY, again(signs("ab")), more(EMPTY)]
        for one in patterns:
            for other in patterns:
                found = beyond(one, other)
                lesser = texts("ab", 5)
                if found is not None:
                    self.assertTrue(spelled(one, found) and not spelled(other, found), (one, other, found))
                    lesser = lesser_texts("ab", found)
                for text in lesser:
                    self.assertFalse(spelled(one, text) and not spelled(other, text), (one, other, text))

    def test_the_text_without_signs(self):
        self.assertEqual(beyond(maybe(signs("a")), signs("a")), "")
        self.assertIsNone(beyond(signs("a"), maybe(signs("a"))))
        self.assertEqual(beyond(EMPTY, signs("a")), "")
        self.assertIsNone(beyond(EMPTY, again(signs("a"))))
        self.assertEqual(beyond(again(signs("a")), EMPTY), "a")

    def test_the_line_end_is_first(self):
        self.assertEqual(beyond(signs(SIGNS), signs(SIGNS[1:])), "\n")
        self.assertEqual(beyond(signs(SIGNS), signs("\n !")), '"')
        self.assertEqual(beyond(again(signs("\n a")), again(signs("a"))), "\n")
        self.assertEqual(beyond(signs("ab"), signs("a")), "b")

    def test_large_patterns(self):
        one = last_but(8, SIGNS, SIGNS[:40])
        self.assertIsNone(beyond(one, last_but(8, SIGNS, SIGNS[:41])))
        self.assertEqual(beyond(one, last_but(8, SIGNS, SIGNS[1:])), "\n" * 8)
        self.assertEqual(beyond(last_but(8), last_but(7)), "ab" + "a" * 6)
