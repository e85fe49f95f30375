"""Points 17 and 18: gaps that hold whatever comes behind."""

import unittest

from tests.brute import (LANGUAGE, LARGE, SMALL, gap_is_kept, kind_of, lesser_texts, maybe, more, short_pieces, signs,
                         some_kinds, texts, then, word)
from tongueyard.gaps import gap_breaks, gap_holds

SAMPLES = SMALL + some_kinds(19, 60)


def good_words(kinds, most=3):
    return [text for text in texts("ab", most) if kind_of(kinds, text) is not None]


class Gaps(unittest.TestCase):
    def test_against_all_texts_behind(self):
        held = broken = 0
        for kinds in SAMPLES:
            for one in good_words(kinds, 2)[:4]:
                for other in good_words(kinds, 2)[:4]:
                    for gap in ("", "a", "b", "ab", "bb"):
                        held += self.check(kinds, one, gap, other)
                        broken += 1
        self.assertGreater(held, 50)
        self.assertGreater(broken - held, 50)

    def check(self, kinds, one, gap, other):
        found = gap_breaks(kinds, one, gap, other)
        self.assertIs(gap_holds(kinds, one, gap, other), found is None)
        lesser = texts("ab", 4)
        if found is not None:
            self.assertFalse(gap_is_kept(kinds, one, gap, other, found), (kinds, one, gap, other, found))
            lesser = lesser_texts("ab", found)
        for behind in lesser:
            self.assertTrue(gap_is_kept(kinds, one, gap, other, behind), (kinds, one, gap, other, behind))
        return found is None

    def test_a_small_language(self):
        rows = [("a", "", "b", ""), ("a", " ", "b", None), ("a", "", "->", None), ("7", "", "a", None), ("7", "", "8", ""),
                ("a", "", "7", ""), ("-", "", "->", None), ("-", "", "-", None), ("loop", "", "7", ""), ("->", "", "a", None),
                ("loop", "\n", "a", None), ("a", " \n #a\n ", "b", None), ("a", "#a", "b", ""), ("a", "#a\n", "b", None),
                ("a", "7", "b", ""), ("a", "?", "b", ""), ("a", "\n", " ", ""), (" ", "", "a", None), (" ", "", " ", ""),
                ("a", "#a\n \n#\n", "7", None), ("a", " x ", "b", "")]
        for one, gap, other, wanted in rows:
            self.assertEqual(gap_breaks(LANGUAGE, one, gap, other), wanted, (one, gap, other))
            self.assertIs(gap_holds(LANGUAGE, one, gap, other), wanted is None)

    def test_texts_behind_that_break_it(self):
        kinds = [("a", then(signs("a"), maybe(word("bcd"))), False), ("b", signs("b"), False), ("c", signs("c"), False)]
        self.assertEqual(gap_breaks(kinds, "a", "", "b"), "cd")
        self.assertIsNone(gap_breaks(kinds, "a", "", "c"))
        self.assertIsNone(gap_breaks(kinds, "abcd", "", "b"))

    def test_a_skipped_piece_that_may_grow_over_its_end(self):
        kinds = [("x", signs("xy"), False), ("gap", then(signs("#"), maybe(word("xz"))), True)]
        self.assertEqual(gap_breaks(kinds, "x", "#", "x"), "z")
        self.assertIsNone(gap_breaks(kinds, "x", "#", "y"))
        self.assertIsNone(gap_breaks(kinds, "x", "#xz", "x"))
        self.assertIsNone(gap_breaks(kinds, "x", "##xz#xz", "x"))
        self.assertEqual(gap_breaks(kinds, "x", "##xz#", "x"), "z")

    def test_the_least_of_several_that_break_it(self):
        kinds = [("x", signs("x"), False), ("y", word("x##xab"), False), ("one", then(signs("#"), maybe(word("#xz"))), True),
                 ("two", then(signs("#"), maybe(word("xc"))), True)]
        self.assertEqual(gap_breaks(kinds, "x", "##", "x"), "c")
        self.assertEqual(gap_breaks(kinds[:3], "x", "##", "x"), "z")
        self.assertEqual(gap_breaks(kinds[:2] + [("one", signs("#"), True)], "x", "##", "x"), "ab")
        self.assertEqual(gap_breaks([kinds[0], kinds[1], kinds[3]], "x", "##", "x"), "c")

    def test_a_line_end_is_the_least_that_breaks_it(self):
        kinds = [("x", then(signs("x"), maybe(then(signs("y"), signs("\n z")))), False), ("y", signs("y"), False)]
        self.assertEqual(gap_breaks(kinds, "x", "", "y"), "\n")

    def test_a_gap_of_a_kind_that_is_not_skipped(self):
        kinds = [("x", signs("x"), False), ("gap", signs(" "), False)]
        self.assertEqual(gap_breaks(kinds, "x", " ", "x"), "")
        self.assertIsNone(gap_breaks(kinds, "x", "", " "))
        kinds[1] = ("gap", signs(" "), True)
        self.assertIsNone(gap_breaks(kinds, "x", " ", "x"))

    def test_nearly_five_hundred_sets_and_two_hundred_signs(self):
        one = "ab" * 90 + "a" + "b" * 7
        self.assertEqual(gap_breaks(LARGE, one, "", "c" * 7), None)
        self.assertEqual(gap_breaks(LARGE, one, "", "a" * 8), "")
        self.assertEqual(gap_breaks(LARGE, one, " ", "c" * 7), "")


class Rows(unittest.TestCase):
    def test_words_with_gaps_that_hold_are_cut_to_just_these(self):
        rows = 0
        for kinds in SAMPLES + [LANGUAGE]:
            words = good_words(kinds, 2)[:5] if kinds is not LANGUAGE else ["a", "7", "loop", "->", "-", " "]
            gaps = ["", "a", "b", "ba"] if kinds is not LANGUAGE else ["", " ", "\n", "#a\n"]
            kept = {(one, other): gap for one in words for other in words for gap in gaps[::-1]
                    if gap_holds(kinds, one, gap, other)}
            for start in words:
                rows += self.check(kinds, kept, start)
        self.assertGreater(rows, 30)

    def check(self, kinds, kept, start):
        row, gaps = [start], []
        for turn in range(8):
            following = [other for one, other in kept if one == row[-1]]
            if not following:
                break
            other = following[turn * 5 % len(following)]
            gaps.append(kept[row[-1], other])
            row.append(other)
        wanted = [(kind_of(kinds, row[0]), row[0])]
        for gap, text in zip(gaps, row[1:]):
            wanted += short_pieces(kinds, gap) + [(kind_of(kinds, text), text)]
        whole = row[0] + "".join(gap + text for gap, text in zip(gaps, row[1:]))
        self.assertEqual(short_pieces(kinds, whole), wanted)
        return len(row) > 3
