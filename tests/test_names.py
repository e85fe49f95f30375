"""What point 25 says of names, and fresh of point 34."""

import unittest

from tongueyard.names import fresh, is_name


class Names(unittest.TestCase):
    def test_names(self):
        for name in ("a", "z", "abcdefgh", "words", "rules", "tops", "bars", "skips", "wor", "top" * 2):
            self.assertIs(is_name(name), True, name)

    def test_texts_that_are_none(self):
        for text in ("", "abcdefghi", "A", "aB", "a1", "a_b", "a b", " a", "a\n", "\u00e4", "\u0430", ".", "a-b"):
            self.assertIs(is_name(text), False, text)

    def test_kept_words_are_none(self):
        for text in ("word", "skip", "rule", "top", "bar"):
            self.assertIs(is_name(text), False, text)

    def test_other_things_are_none(self):
        for thing in (None, True, 1, 1.5, b"a", ["a"], ("a",), {"a": 1}, {"a"}, object(), str, len):
            self.assertIs(is_name(thing), False, thing)


class Fresh(unittest.TestCase):
    def test_the_first_letters_and_the_first_two_that_are_free(self):
        self.assertEqual(fresh("a", []), "aaa")
        self.assertEqual(fresh("a", ["aaa"]), "aab")
        self.assertEqual(fresh("a", ["aab", "aaa", "aad"]), "aac")
        self.assertEqual(fresh("abcdef", []), "abcdefaa")
        self.assertEqual(fresh("abcdefg", []), "abcdefaa")
        self.assertEqual(fresh("abcdefgh", ["abcdefaa"]), "abcdefab")

    def test_the_second_letter_goes_first(self):
        taken = ["x" + "a" + second for second in "abcdefghijklmnopqrstuvwxyz"]
        self.assertEqual(fresh("x", taken[:-1]), "xaz")
        self.assertEqual(fresh("x", taken), "xba")

    def test_a_kept_word_is_no_name_and_passed_over(self):
        pairs = [a + b for a in "abcdefghijklmnopqrstuvwxyz" for b in "abcdefghijklmnopqrstuvwxyz"]
        for stem, kept in (("t", "top"), ("b", "bar"), ("wo", "word"), ("sk", "skip"), ("ru", "rule")):
            ahead = [stem + pair for pair in pairs if stem + pair < kept]
            self.assertEqual(fresh(stem, ahead), stem + pairs[len(ahead) + 1])

    def test_what_is_told_is_a_name_and_what_is_handed_in_stays(self):
        taken = ["abaa", "abab"]
        self.assertTrue(is_name(fresh("ab", taken)))
        self.assertEqual(taken, ["abaa", "abab"])
        self.assertEqual(fresh("ab", taken), fresh("ab", taken))

    def test_three_hundred_taken(self):
        taken = []
        for _ in range(300):
            taken.append(fresh("rulename", taken))
        self.assertEqual(len(set(taken)), 300)
        self.assertEqual(taken, sorted(taken))
        self.assertEqual(taken[-1], "rulenaln")
