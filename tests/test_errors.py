"""Point 3: the refusals, their fields and where they stand."""

import inspect
import unittest

from tongueyard import errors

FIELDS = """
NoName name | NoGrammar what name | NoLabel label | NoTree node | NoNode number | Barred label | AllBarred
TooMany limit | NoText at | NoReading at may_kinds | Ringed name | Many one other | NoShape many | NoPlace place
NoLog at | Clash one other at | Stop at may_kinds | NoItem state label kind | NoTable row | NoMend | NoDeeds at
NoLayout label | NotGood number | NoPrint number | NoTally what row | NoGiven attribute | RoundWorths circle
NoWorth node attribute | NoSpan span | NoRoom many | NoStep what | Stopped number | NoLead step number why
NoBack label | NoDeed word | NotDone number | NoVersion version | Taken name | NoSuch name | NotStill name
NotAlone name | NoRow row
"""
CLASSES = {row.split()[0]: row.split()[1:] for line in FIELDS.strip().split("\n") for row in line.split("|")}


class Refusals(unittest.TestCase):
    def test_there_are_just_these(self):
        found = {name for name, thing in inspect.getmembers(errors, inspect.isclass) if name != "YardError"}
        self.assertEqual(found, set(CLASSES))
        self.assertEqual(len(CLASSES), 42)

    def test_each_stands_straight_under_yard_error(self):
        self.assertEqual(errors.YardError.__bases__, (ValueError,))
        for name in CLASSES:
            self.assertEqual(getattr(errors, name).__bases__, (errors.YardError,), name)

    def test_each_keeps_its_fields_in_their_order(self):
        for name, fields in CLASSES.items():
            given = [("thing", at) for at in range(len(fields))]
            refusal = getattr(errors, name)(*given)
            self.assertEqual([getattr(refusal, field) for field in fields], given, name)
            if fields:
                self.assertRaises(TypeError, getattr(errors, name), *given, 1)
                self.assertRaises(TypeError, getattr(errors, name), *given[1:])

    def test_each_is_caught_as_a_yard_error_and_as_no_other_one(self):
        for name, fields in CLASSES.items():
            for other in CLASSES:
                made = getattr(errors, name)(*[None] * len(fields))
                self.assertEqual(isinstance(made, getattr(errors, other)), name == other)
            with self.assertRaises(errors.YardError):
                raise getattr(errors, name)(*[None] * len(fields))
