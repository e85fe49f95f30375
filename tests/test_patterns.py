"""Points 10 and 11: patterns and what they spell."""

import unittest

from tests.brute import EMPTY, again, either, maybe, more, signs, some_patterns, spelled, texts, then, word
from tongueyard.patterns import SIGNS, is_pattern, least_spelled, only_text, spells, spells_none

SAMPLES = [EMPTY, signs("a"), signs("ab"), word("ab"), either(word("ba"), signs("b")), again(signs("a")),
           more(EMPTY), more(maybe(signs("a"))), then(maybe(signs("a")), maybe(signs("b"))),
           again(either(word("ab"), word("ba"))), either(EMPTY, word("ab")), maybe(again(word("ab"))),
           then(again(signs("a")), signs("b")), then(EMPTY, EMPTY), more(then(again(signs("a")), maybe(signs("b"))))]
SAMPLES = SAMPLES + some_patterns(11, 120)


def nested(kind, many):
    pattern = signs("a")
    for _ in range(many - 1):
        pattern = (kind, pattern)
    return pattern


class Signs(unittest.TestCase):
    def test_the_signs(self):
        wanted = [chr(10)] + [chr(code) for code in range(32, 127) if code != 37]
        self.assertEqual(SIGNS, "".join(wanted))
        self.assertEqual(len(SIGNS), 95)


class IsPattern(unittest.TestCase):
    def test_each_form(self):
        one = signs("a")
        for thing in (one, signs("ab"), signs(SIGNS), EMPTY, ("then", one, EMPTY), ("or", one, one),
                      ("again", one), ("more", EMPTY), ("maybe", ("again", one))):
            self.assertIs(is_pattern(thing), True, thing)

    def test_things_of_other_forms(self):
        one = signs("a")
        for thing in ((), ("signs",), ("empty", one), ("then", one), ("then", one, one, one), ("or", one),
                      ("again",), ("again", one, one), ("more",), ("maybe", one, EMPTY), ("plus", one), ("", one),
                      ("signs", "a", "b"), ("Signs", "a"), ("then", one, "a"), ("then", "a", one), ("again", None),
                      (one,), (one, one), (("empty",), "empty")):
            self.assertIs(is_pattern(thing), False, thing)

    def test_things_of_other_kinds(self):
        one = signs("a")
        for thing in (None, True, False, 0, 1, "", "a", "signs", "empty", b"empty", [], ["empty"], ["signs", "a"],
                      {"signs": "a"}, {"empty"}, object(), tuple, ("signs", True), ("signs", None), ("signs", 7),
                      ("signs", ["a"]), ("signs", ("a",)), ("signs", b"a"), ("then", ["signs", "a"], one),
                      ("then", one, ["signs", "a"]), ("again", ["empty"]), (True, one), (None,), (["empty"],),
                      ({}, one), (b"empty",), ("again", True)):
            self.assertIs(is_pattern(thing), False, thing)

    def test_signs_out_of_order_twice_or_none(self):
        for text in ("", "ba", "aa", "aba", "abb", "a\n", "Aa B", " \n"):
            self.assertIs(is_pattern(signs(text)), False, text)
        for text in ("\n ", "\n", " !", "AZaz", "[\\]"):
            self.assertIs(is_pattern(signs(text)), True, text)

    def test_signs_that_are_none(self):
        for text in (chr(37), "$" + chr(37) + "&", "\t", "\r", chr(127), "a" + chr(228), chr(0), chr(0x20ac), "\n\x0b"):
            self.assertIs(is_pattern(signs(text)), False, text)
            self.assertIs(is_pattern(then(signs("a"), signs(text))), False, text)

    def test_twelve_within_one_another_and_thirteen(self):
        for kind in ("again", "more", "maybe"):
            self.assertIs(is_pattern(nested(kind, 12)), True)
            self.assertIs(is_pattern(nested(kind, 13)), False)
        self.assertIs(is_pattern(word("abcdefghijkl")), True)
        self.assertIs(is_pattern(word("abcdefghijklm")), False)
        self.assertIs(is_pattern(("or", EMPTY, nested("more", 11))), True)
        self.assertIs(is_pattern(("or", nested("more", 12), EMPTY)), False)

    def test_far_more_within_one_another(self):
        thing = nested("again", 5000)
        self.assertIs(is_pattern(thing), False)
        full = signs("ab")
        for _ in range(11):
            full = ("or", full, full)
        self.assertIs(is_pattern(full), True)
        self.assertIs(is_pattern(("or", full, full)), False)


class Spelled(unittest.TestCase):
    def test_each_form(self):
        self.assertTrue(spells(signs("ac"), "a"))
        self.assertTrue(spells(signs("ac"), "c"))
        self.assertFalse(spells(signs("ac"), "b"))
        self.assertFalse(spells(signs("ac"), ""))
        self.assertFalse(spells(signs("ac"), "ac"))
        self.assertTrue(spells(EMPTY, ""))
        self.assertFalse(spells(EMPTY, "a"))
        self.assertTrue(spells(word("ab"), "ab"))
        self.assertFalse(spells(word("ab"), "ba"))
        self.assertFalse(spells(word("ab"), "a"))
        self.assertTrue(spells(either(word("ab"), signs("c")), "c"))
        self.assertTrue(spells(again(word("ab")), ""))
        self.assertTrue(spells(again(word("ab")), "abab"))
        self.assertFalse(spells(again(word("ab")), "aba"))
        self.assertFalse(spells(more(word("ab")), ""))
        self.assertTrue(spells(more(word("ab")), "ababab"))
        self.assertTrue(spells(more(maybe(signs("a"))), ""))
        self.assertTrue(spells(maybe(signs("a")), ""))
        self.assertFalse(spells(maybe(signs("a")), "aa"))

    def test_signs_that_are_none_are_never_spelled(self):
        self.assertFalse(spells(signs(SIGNS), chr(37)))
        self.assertFalse(spells(again(signs(SIGNS)), "a" + chr(37)))
        for sign in SIGNS:
            self.assertTrue(spells(signs(SIGNS), sign))

    def test_all_short_texts(self):
        for pattern in SAMPLES:
            for text in texts("ab", 5):
                self.assertIs(spells(pattern, text), spelled(pattern, text), (pattern, text))

    def test_texts_of_two_hundred_signs(self):
        nest = signs("a")
        for _ in range(5):
            nest = again(then(again(nest), signs("ab")))
        self.assertTrue(spells(nest, "a" * 199 + "b"))
        self.assertFalse(spells(nest, "a" * 199 + "c"))
        self.assertTrue(spells(again(word("ab")), "ab" * 100))
        self.assertFalse(spells(again(word("ab")), "ab" * 99 + "aa"))

    def test_the_largest_patterns(self):
        full = maybe(signs("a"))
        for _ in range(10):
            full = ("then", full, full)
        self.assertTrue(is_pattern(full))
        self.assertTrue(spells(full, "a" * 200))
        self.assertFalse(spells(full, "a" * 200 + "b"))
        self.assertEqual(least_spelled(full), "")
        self.assertIsNone(only_text(full))

    def test_spells_none(self):
        for pattern in SAMPLES:
            self.assertIs(spells_none(pattern), spelled(pattern, ""), pattern)
        self.assertIs(spells_none(EMPTY), True)
        self.assertIs(spells_none(more(EMPTY)), True)
        self.assertIs(spells_none(signs("a")), False)


class LeastAndOnly(unittest.TestCase):
    def test_the_least_is_the_first_that_is_spelled(self):
        for pattern in SAMPLES:
            least = least_spelled(pattern)
            self.assertTrue(spelled(pattern, least))
            found = next(text for text in texts("ab", len(least)) if spelled(pattern, text))
            self.assertEqual(found, least, pattern)

    def test_the_shortest_goes_ahead_of_the_first(self):
        self.assertEqual(least_spelled(either(word("aa"), signs("b"))), "b")
        self.assertEqual(least_spelled(either(word("ab"), word("aa"))), "aa")
        self.assertEqual(least_spelled(signs("\n a")), "\n")
        self.assertEqual(least_spelled(either(signs(" "), signs("\n"))), "\n")
        self.assertEqual(least_spelled(more(either(word("ab"), signs("z")))), "z")
        self.assertEqual(least_spelled(maybe(signs("a"))), "")
        self.assertEqual(least_spelled(EMPTY), "")

    def test_only_text_is_told_where_just_one_is_spelled(self):
        for pattern in SAMPLES:
            found = [text for text in texts("ab", 6) if spelled(pattern, text)]
            if only_text(pattern) is None:
                # Two texts of a pattern of this size are among the short ones, as far as they are there.
                self.assertNotEqual(len(found), 1, pattern)
            else:
                self.assertEqual([only_text(pattern)], found, pattern)

    def test_only_text_of_each_form(self):
        self.assertEqual(only_text(word("loop")), "loop")
        self.assertEqual(only_text(EMPTY), "")
        self.assertEqual(only_text(again(EMPTY)), "")
        self.assertEqual(only_text(more(EMPTY)), "")
        self.assertEqual(only_text(maybe(again(EMPTY))), "")
        self.assertEqual(only_text(more(either(EMPTY, again(EMPTY)))), "")
        self.assertEqual(only_text(then(EMPTY, signs("a"), EMPTY)), "a")
        self.assertEqual(only_text(either(word("ab"), then(signs("a"), signs("b")))), "ab")
        for pattern in (signs("ab"), either(signs("a"), signs("b")), again(signs("a")), more(signs("a")),
                        maybe(signs("a")), either(EMPTY, signs("a")), then(signs("a"), signs("bc")),
                        then(signs("bc"), signs("a"))):
            self.assertIsNone(only_text(pattern), pattern)
