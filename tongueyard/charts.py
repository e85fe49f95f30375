"""Charts of rows of kinds: their facts, whether and how far they are read, and in how many ways."""

from tongueyard.earley import facts_of
from tongueyard.errors import NoPlace
from tongueyard.forests import Forest
from tongueyard.grammars import END
from tongueyard.things import is_whole


class Chart:
    def __init__(self, grammar, row):
        self._row = list(row)
        self._sets = facts_of(grammar, self._row)
        self._facts = tuple(sorted([(label, dot, first, behind) for behind, here in enumerate(self._sets.sets)
                                    for label, dot, first in here]))

    def facts(self):
        return self._facts

    def reads(self):
        return len(self._sets.sets) == len(self._row) + 1 and self._sets.may_end(len(self._row))

    def bad(self):
        return None if self.reads() else self.last_place()

    def last_place(self):
        """The greatest place up to which the kinds begin some text, 0 where there is no text."""
        last = len(self._sets.sets) - 1
        return last - 1 if self._sets.is_dead() and last > 0 else last

    def next_kinds(self, at):
        if not is_whole(at) or not 0 <= at <= self.last_place():
            raise NoPlace(at)
        ends = [END] if self._sets.may_end(at) else []
        return sorted(ends + self._sets.next_kinds(at))

    def how_many(self):
        forest = Forest(self._sets, self._row)
        return None if forest.is_endless() else forest.how_many()

    def __eq__(self, other):
        return isinstance(other, Chart) and self._row == other._row and self._facts == other._facts

    def __len__(self):
        return len(self._facts)

    def __repr__(self):
        return f"Chart({self._row!r})"
