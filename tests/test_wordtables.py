"""Points 12, 13 and 14: kinds, the word table and its least texts."""

import unittest

from tests.brute import (EMPTY, LANGUAGE, LARGE, SMALL, again, either, goes_on, kind_of, last_but, lesser_texts, maybe,
                         more, signs, some_kinds, texts, then, word)
from tongueyard.patterns import SIGNS
from tongueyard.wordtables import least_apart, least_row, least_word, state_of, word_paper, word_table

SAMPLES = SMALL + some_kinds(3, 60)


def kind_by(table, text):
    state = state_of(table, text)
    return None if state is None else table[state][0]


def step(table, state, sign):
    found = [to for text, to in table[state][1] if sign in text]
    return found[0] if found else None


class Form(unittest.TestCase):
    def test_one_kind(self):
        self.assertEqual(word_table([("a", signs("a"), False)]), ((None, (("a", 1),)), ("a", ())))

    def test_signs_to_one_state_are_one_text_and_stand_by_their_first_sign(self):
        kinds = [("x", either(signs("bd"), word("ca"), signs("\n")), False)]
        wanted = ((None, (("\nbd", 1), ("c", 2))), ("x", ()), (None, (("a", 1),)))
        self.assertEqual(word_table(kinds), wanted)
        kinds = [("x", either(signs("b"), word("ac"), word("dc"), signs("e")), False)]
        self.assertEqual(word_table(kinds), ((None, (("ad", 1), ("be", 2))), (None, (("c", 2),)), ("x", ())))

    def test_rows_alike_to_the_one_without_signs_are_of_state_nought(self):
        kinds = [("a", then(again(signs("a")), signs("b")), False)]
        self.assertEqual(word_table(kinds), ((None, (("a", 0), ("b", 1))), ("a", ())))

    def test_the_first_kind_that_spells_a_text_has_it(self):
        kinds = [("if", word("ab"), False), ("id", more(signs("ab")), True)]
        wanted = ((None, (("a", 1), ("b", 2))), ("id", (("a", 2), ("b", 3))), ("id", (("ab", 2),)),
                  ("if", (("ab", 2),)))
        self.assertEqual(word_table(kinds), wanted)
        self.assertEqual(word_table(kinds[::-1]), ((None, (("ab", 1),)), ("id", (("ab", 1),))))

    def test_tables_are_tuples_of_told_kinds(self):
        for kinds in SAMPLES + [LANGUAGE, LARGE]:
            table = word_table(kinds)
            self.assertIs(type(table), tuple)
            names = [None] + [name for name, _, _ in kinds]
            for state in table:
                self.assertIs(type(state), tuple)
                kind, moves = state
                self.assertIn(kind, names)
                self.assertIs(type(moves), tuple)
                for move in moves:
                    self.assertIs(type(move), tuple)
                    self.assertEqual(list(move[0]), sorted(set(move[0])))
                    self.assertTrue(move[0] and set(move[0]) <= set(SIGNS) and 0 <= move[1] < len(table))
                self.assertEqual([text[0] for text, _ in moves], sorted(text[0] for text, _ in moves))
                self.assertEqual(len({to for _, to in moves}), len(moves))
                led = "".join(text for text, _ in moves)
                self.assertEqual(len(set(led)), len(led))


class Meaning(unittest.TestCase):
    def test_kinds_of_all_short_texts(self):
        for kinds in SAMPLES:
            table = word_table(kinds)
            for text in texts("abc", 4):
                self.assertEqual(kind_by(table, text), kind_of(kinds, text), (kinds, text))
                self.assertEqual(state_of(table, text) is not None, goes_on(kinds, text), (kinds, text))
            for text in texts("ab", 6):
                self.assertEqual(kind_by(table, text), kind_of(kinds, text), (kinds, text))

    def test_a_small_language(self):
        table = word_table(LANGUAGE)
        for text, kind in (("loop", "loop"), ("loops", "id"), ("loo", "id"), ("7", "num"), ("a7", "id"), ("-", "less"),
                           ("->", "arrow"), (" \n", "blank"), ("#a\n", "note"), ("#a", None), ("", None)):
            self.assertEqual(kind_by(table, text), kind, text)
        for text in ("7a", "->-", "\n#", "?", chr(37), "a ", "A"):
            self.assertIsNone(state_of(table, text), text)

    def test_states_are_numbered_as_they_are_first_met(self):
        for kinds in SAMPLES + [LANGUAGE, LARGE]:
            table = word_table(kinds)
            met = [0]
            for state in met:
                for sign in SIGNS:
                    to = step(table, state, sign)
                    if to is not None and to not in met:
                        met.append(to)
            self.assertEqual(met, list(range(len(table))))

    def test_unlike_states_are_told_apart_by_the_least_text(self):
        for kinds in SAMPLES:
            table = word_table(kinds)
            for one in range(len(table)):
                for other in range(len(table)):
                    if one != other:
                        self.check_apart(kinds, table, one, other)

    def check_apart(self, kinds, table, one, other):
        rows = least_row(table, one), least_row(table, other)
        apart = least_apart(table, one, other)
        self.assertNotEqual(kind_of(kinds, rows[0] + apart), kind_of(kinds, rows[1] + apart))
        for text in lesser_texts("ab", apart):
            self.assertEqual(kind_of(kinds, rows[0] + text), kind_of(kinds, rows[1] + text))
        self.assertEqual(least_apart(table, other, one), apart)

    def test_least_rows(self):
        for kinds in SAMPLES:
            table = word_table(kinds)
            firsts = {}
            for text in texts("ab", 8):
                firsts.setdefault(state_of(table, text), text)
            rows = [least_row(table, state) for state in range(len(table))]
            self.assertEqual(rows, [firsts[state] for state in range(len(table))], kinds)
            self.assertEqual(rows, sorted(rows, key=lambda row: (len(row), row)))

    def test_least_words(self):
        for kinds in SAMPLES:
            table = word_table(kinds)
            firsts = {}
            for text in texts("ab", 8):
                firsts.setdefault(kind_by(table, text), text)
            for name, _, _ in kinds:
                self.assertEqual(least_word(table, name), firsts.get(name), (kinds, name))

    def test_a_kind_without_words(self):
        table = word_table([("ab", more(signs("ab")), False), ("lost", word("ab"), False)])
        self.assertIsNone(least_word(table, "lost"))
        self.assertIsNone(least_word(table, "other"))
        self.assertEqual(least_word(table, "ab"), "a")

    def test_the_least_has_the_line_end_ahead_of_the_blank(self):
        table = word_table([("x", then(signs("\n a"), signs(" b")), False), ("y", word("zz"), False)])
        self.assertEqual(least_word(table, "x"), "\n ")
        self.assertEqual(least_row(table, 1), "\n")
        self.assertEqual(least_row(table, 2), "z")
        self.assertEqual(least_apart(table, 1, 2), " ")
        self.assertEqual(least_apart(table, 0, 1), " ")
        self.assertEqual(least_row(table, 0), "")
        self.assertEqual(least_apart(table, 3, 1), "")


class OneTable(unittest.TestCase):
    def test_same_texts_of_same_kinds_make_the_very_same_table(self):
        a, b = signs("a"), signs("b")
        pairs = [
            ([("x", more(a), False)], [("x", then(a, again(a)), True)]),
            ([("x", either(a, b), False)], [("x", signs("ab"), False)]),
            ([("x", then(maybe(a), b), False)], [("x", either(b, word("ab")), False)]),
            ([("x", then(again(either(a, b)), a), False)],
             [("x", then(again(then(again(b), a)), again(b), a), False)]),
            ([("x", a, False), ("y", signs("ab"), False)], [("x", a, False), ("y", b, False)]),
            ([("x", a, False), ("y", b, False)], [("y", b, False), ("x", a, False)]),
            ([("x", a, False), ("y", b, False)], [("x", a, False), ("y", b, False), ("z", signs("ab"), False)]),
            ([("x", then(EMPTY, a, EMPTY), False)], [("x", more(either(a, a)), False), ("z", word("aa"), False)][:1]),
        ]
        for one, other in pairs[:-1]:
            self.assertEqual(word_table(one), word_table(other), (one, other))
        self.assertNotEqual(word_table(pairs[-1][0]), word_table(pairs[-1][1]))

    def test_tables_are_alike_just_where_short_texts_are(self):
        tables = [(kinds, word_table(kinds)) for kinds in some_kinds(8, 40, deep=3)]
        alike = 0
        for kinds, table in tables:
            for others, other in tables:
                same = all(kind_of(kinds, text) == kind_of(others, text) for text in texts("ab", 6))
                self.assertEqual(table == other, same, (kinds, others))
                alike += same
        self.assertGreater(alike, len(tables))

    def test_skipped_says_nothing(self):
        kinds = [(name, pattern, not skipped) for name, pattern, skipped in LANGUAGE]
        self.assertEqual(word_table(kinds), word_table(LANGUAGE))


class Large(unittest.TestCase):
    def test_nearly_five_hundred_sets_of_places(self):
        table = word_table(LARGE)
        self.assertEqual(len(word_paper(LARGE)), 385)
        self.assertEqual(len(table), 385)
        self.assertEqual(least_word(table, "w"), "a" * 8)
        self.assertEqual(least_word(table, "v"), "c" * 7)
        text = "ab" * 96
        for end, kind in (("a" + "b" * 7, "w"), ("b" * 8, None), ("c", None)):
            self.assertEqual(kind_by(table, text + end), kind)
        self.assertIsNotNone(state_of(table, text + "b" * 8))
        self.assertIsNone(state_of(table, text + "c"))
        rows = [least_row(table, state) for state in range(0, 385, 16)]
        self.assertEqual([state_of(table, row) for row in rows], list(range(0, 385, 16)))
        apart = least_apart(table, 300, 301)
        self.assertNotEqual(kind_by(table, least_row(table, 300) + apart), kind_by(table, least_row(table, 301) + apart))

    def test_sets_that_are_alike_are_put_together(self):
        # The same language in two kinds: 257 sets each, and still one table.
        one = last_but(8)
        twice = [("w", either(one, one), False)]
        self.assertEqual(word_table(twice), word_table([("w", one, False)]))
        self.assertEqual(len(word_table(twice)), 256)

    def test_fourteen_kinds_and_forty_signs(self):
        kinds = [("kind" + name, then(signs(name), again(signs(SIGNS)), signs(name.upper())), False)
                 for name in "abcdefghijklm"]
        kinds.append(("rest", signs("\n"), True))
        table = word_table(kinds)
        self.assertEqual(len(kinds), 14)
        self.assertEqual(kind_by(table, "c" + "x" * 198 + "C"), "kindc")
        self.assertEqual(least_word(table, "kindm"), "mM")
        self.assertEqual(len(table), 28)
