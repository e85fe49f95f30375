"""Ledgers: they keep the worths of a numbered tree while it, and all around it, is laid anew."""

from tongueyard.errors import NoWorth
from tongueyard.instances import Reckoned


class Ledger:
    def __init__(self, grammar, tally, *, given=()):
        self._grammar = grammar
        self._tally = tally
        self._given = given
        self._rows = []
        self._makings = {}
        self._found = {}

    def laid(self, numbered):
        return self.relaid(self._grammar, self._tally, numbered, given=self._given)

    def relaid(self, grammar, tally, numbered, *, given=()):
        reckoned = Reckoned(grammar, tally, numbered, given, self._makings, self._found)
        self._grammar = grammar
        self._tally = tally
        self._given = given
        self._rows = reckoned.rows_told()
        self._makings = reckoned.makings
        self._found = reckoned.found
        return reckoned.anew

    def worths_now(self):
        return list(self._rows)

    def worth_of(self, node, attribute):
        if (node, attribute) not in self._found:
            raise NoWorth(node, attribute)
        return self._found[(node, attribute)]

    def __eq__(self, other):
        return isinstance(other, Ledger) and self._rows == other._rows

    def __len__(self):
        return len(self._rows)

    def __repr__(self):
        return f"Ledger({len(self._rows)})"
