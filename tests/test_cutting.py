"""Points 15 and 16: the pieces of a text."""

import unittest

from tests.brute import (LANGUAGE, LARGE, SMALL, again, kind_of, maybe, more, piece_at, pieces, short_pieces, signs,
                         some_kinds, texts, then, word)
from tongueyard.cutting import cut_words, first_piece, is_good, pieces_of
from tongueyard.wordtables import word_table

SAMPLES = SMALL + some_kinds(17, 40)


class Pieces(unittest.TestCase):
    def test_all_short_texts(self):
        for kinds in SAMPLES:
            table = word_table(kinds)
            for text in texts("abc", 4):
                self.assertEqual(pieces_of(table, text), pieces(kinds, text), (kinds, text))
                for at in range(len(text)):
                    self.assertEqual(first_piece(table, text, at), piece_at(kinds, text, at), (kinds, text, at))

    def test_the_longest_is_taken(self):
        table = word_table([("a", signs("a"), False), ("long", then(again(signs("a")), signs("b")), False)])
        self.assertEqual(first_piece(table, "aaab", 0), ("long", "aaab", 5))
        self.assertEqual(first_piece(table, "aaac", 0), ("a", "a", 4))
        self.assertEqual(first_piece(table, "aaac", 2), ("a", "a", 2))
        self.assertEqual(first_piece(table, "aaa", 1), ("a", "a", 3))

    def test_look_counts_the_sign_that_ends_it_and_the_end(self):
        table = word_table(LANGUAGE)
        self.assertEqual(first_piece(table, "ab c", 0), ("id", "ab", 3))
        self.assertEqual(first_piece(table, "ab", 0), ("id", "ab", 3))
        self.assertEqual(first_piece(table, "-x", 0), ("less", "-", 2))
        self.assertEqual(first_piece(table, "-", 0), ("less", "-", 2))
        self.assertEqual(first_piece(table, "->", 0), ("arrow", "->", 3))
        self.assertEqual(first_piece(table, "->x", 0), ("arrow", "->", 3))
        self.assertEqual(first_piece(table, "#ab", 0), ("", "#", 4))
        self.assertEqual(first_piece(table, "#ab1", 0), ("", "#", 4))
        self.assertEqual(first_piece(table, "#ab\n", 0), ("note", "#ab\n", 5))

    def test_strays(self):
        table = word_table(LANGUAGE)
        self.assertEqual(first_piece(table, "?", 0), ("", "?", 1))
        self.assertEqual(first_piece(table, "a?b", 1), ("", "?", 1))
        self.assertEqual(first_piece(table, chr(37), 0), ("", chr(37), 1))
        self.assertEqual(pieces_of(table, "??"), [("", "?", 1), ("", "?", 1)])
        table = word_table([("abc", word("abc"), False)])
        self.assertEqual(pieces_of(table, "ababc"), [("", "a", 3), ("", "b", 1), ("abc", "abc", 4)])

    def test_the_text_without_signs_has_none(self):
        self.assertEqual(pieces_of(word_table(LANGUAGE), ""), [])

    def test_texts_alike_in_the_look_signs_have_the_same_piece(self):
        for kinds in SAMPLES:
            table = word_table(kinds)
            for text in texts("ab", 4):
                for at in range(len(text)):
                    piece = first_piece(table, text, at)
                    looked = at + piece[2]
                    for other in ("a", "ab", "ba", "?"):
                        if looked <= len(text):
                            self.assertEqual(first_piece(table, text[:looked] + other, at), piece)
                    self.assertEqual(first_piece(table, "b" + text, at + 1), piece)

    def test_no_fewer_signs_are_enough(self):
        table = word_table([("a", signs("a"), False), ("abc", then(word("ab"), maybe(word("cd"))), False)])
        self.assertEqual(first_piece(table, "abca", 0), ("abc", "ab", 4))
        self.assertEqual(first_piece(table, "abcd", 0), ("abc", "abcd", 5))
        self.assertEqual(first_piece(table, "abc", 0), ("abc", "ab", 4))

    def test_two_hundred_signs(self):
        table = word_table([("a", signs("a"), False), ("long", then(more(signs("a")), signs("b")), False)])
        found = pieces_of(table, "a" * 200)
        self.assertEqual(found, [("a", "a", 201 - at) for at in range(200)])
        self.assertEqual(pieces_of(table, "a" * 199 + "b"), [("long", "a" * 199 + "b", 201)])

    def test_nearly_five_hundred_sets(self):
        table = word_table(LARGE)
        text = "ab" * 50 + "cd" * 50
        self.assertEqual(len(text), 200)
        found = pieces_of(table, text)
        wanted = [("w", "ab" * 50, 101), ("v", "cd" * 49 + "c", 101), ("", "d", 2)]
        self.assertEqual(found, wanted)
        self.assertEqual("".join(piece for _, piece, _ in found), text)


class Words(unittest.TestCase):
    def test_all_short_texts(self):
        for kinds in SAMPLES:
            skipped = [name for name, _, skip in kinds if skip]
            for text in texts("abc", 3):
                wanted = [pair for pair in short_pieces(kinds, text) if pair[0] not in skipped]
                self.assertEqual(cut_words(kinds, text), wanted)

    def test_strays_stay_and_skipped_kinds_fall_out(self):
        self.assertEqual(cut_words(LANGUAGE, "loop ?x1->7\n#a b\n"),
                         [("loop", "loop"), ("", "?"), ("id", "x1"), ("arrow", "->"), ("num", "7")])
        self.assertEqual(cut_words(LANGUAGE, " \n "), [])
        self.assertEqual(cut_words(LANGUAGE, ""), [])
        self.assertEqual(cut_words([("a", signs("a"), True)], "ab"), [("", "b")])

    def test_is_good(self):
        for kinds in SAMPLES:
            table = word_table(kinds)
            for text in texts("ab", 4):
                found = short_pieces(kinds, text)
                for name, _, _ in kinds:
                    self.assertIs(is_good(table, name, text), found == [(name, text)], (kinds, name, text))

    def test_what_is_not_good(self):
        table = word_table(LANGUAGE)
        self.assertTrue(is_good(table, "loop", "loop"))
        self.assertTrue(is_good(table, "blank", " "))
        self.assertFalse(is_good(table, "id", "loop"))
        self.assertFalse(is_good(table, "id", ""))
        self.assertFalse(is_good(table, "", ""))
        self.assertFalse(is_good(table, "", "?"))
        self.assertFalse(is_good(table, "", "#"))
        self.assertFalse(is_good(table, "id", "a b"))
        self.assertFalse(is_good(table, "other", "a"))

    def test_a_word_of_two_hundred_signs(self):
        table = word_table([("a", more(signs("a")), False)])
        self.assertTrue(is_good(table, "a", "a" * 200))
        self.assertFalse(is_good(table, "a", "a" * 199 + "b"))
        self.assertEqual(kind_of([("a", more(signs("a")), False)], "a"), "a")
