"""Point 53: the three sorts of worths at their bounds and one beyond."""

import unittest

from tongueyard.patterns import SIGNS
from tongueyard.sorts import LONG, MEMBERS, MOST, is_worth

SORTS = ("number", "text", "names")
ANYTHING = [None, True, False, 1.0, -1, 10 ** 29, b"a", [], ["a"], {}, {"a": 1}, {"a"}, object(), str, len, range(3),
            (1,), ("a", 1), ("a", None), ("a", "a"), ("b", "a"), ("a", ("b",)), [("a",)], "\t", "%", "\u00e4", ("%",)]


class Worths(unittest.TestCase):
    def test_bounds(self):
        self.assertEqual((MOST, LONG, MEMBERS), (1000000000, 60, 40))

    def sorts_of(self, thing):
        told = [is_worth(sort, thing) for sort in SORTS]
        self.assertTrue(all(type(one) is bool for one in told))
        return [sort for sort, one in zip(SORTS, told) if one]

    def test_numbers(self):
        for number in (0, 1, 999999999, 1000000000):
            self.assertEqual(self.sorts_of(number), ["number"])
        for number in (-1, 1000000001, 10 ** 30, -10 ** 30, True, False, 0.0, 1.5, "1", (1,)):
            self.assertNotIn("number", self.sorts_of(number), number)

    def test_texts(self):
        for text in ("", "a", "a" * 60, SIGNS[:60], SIGNS[-60:], "\n", " ", "~", "a\nb"):
            self.assertEqual(self.sorts_of(text), ["text"])
        for text in ("a" * 61, "%", "\t", "\r", "a%", "\x7f", "\u00e4", b"a", ["a"], 7):
            self.assertNotIn("text", self.sorts_of(text), text)

    def test_names(self):
        forty = tuple(chr(65 + at // 26) + chr(65 + at % 26) for at in range(40))
        for names in ((), ("",), ("", "a"), ("a", "aa", "b"), ("B", "a"), ("\n", " ", "a"), forty, ("a" * 60,)):
            self.assertEqual(self.sorts_of(names), ["names"])
        for names in (forty + ("b",), ("a", "a"), ("b", "a"), ("a", "B"), ("a" * 61,), ("a", 1), (1,), ("a", None),
                      ["a"], ("%",), "ab", {"a"}, (("a",),), (b"a",)):
            self.assertNotIn("names", self.sorts_of(names), names)

    def test_anything(self):
        for thing in ANYTHING:
            self.assertEqual(self.sorts_of(thing), [])

    def test_anything_as_sort(self):
        for sort in ANYTHING + ["", "Number", "numbers", "name", "texts", ("number",), 7, 0]:
            for thing in (7, "a", (), ("a",), None, sort):
                self.assertIs(is_worth(sort, thing), False)
