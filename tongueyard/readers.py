"""Readers of grammars: they cut texts into words, and read rows of kinds to their first trees."""

from tongueyard.bars import parted
from tongueyard.charts import Chart
from tongueyard.cutting import pieces_of
from tongueyard.earley import facts_of
from tongueyard.errors import Clash, Ringed, Stop, TooMany
from tongueyard.forests import Forest
from tongueyard.known import ring
from tongueyard.machine import run_kinds
from tongueyard.tables import table_of
from tongueyard.wordtables import word_table


class Reader:
    def __init__(self, grammar):
        self._grammar = grammar
        self._parts = parted(grammar)
        found = ring(self._parts.plain())
        if found is not None:
            raise Ringed(grammar.rule_of(self._parts.old_label(found[0][0])))
        self._skipped = [name for name, _, skip in grammar.kinds() if skip]
        self._words = word_table(grammar.kinds())
        try:
            self._table = table_of(self._parts.plain())
        except (Clash, TooMany):
            self._table = None

    def grammar_read(self):
        return self._grammar

    def has_table(self):
        return self._table is not None

    def is_skipped(self, kind):
        return kind in self._skipped

    def words_of(self):
        """The word table of the grammar's kinds."""
        return self._words

    def parts_read(self):
        """The grammar parted by its bars."""
        return self._parts

    def table_read(self):
        """The table of the grammar without bars, a new one; only where there is one."""
        labels, deeds = self._table
        return labels, tuple([{symbol: deed for symbol, deed in one.items()} for one in deeds])

    def cut(self, text):
        """The list of (kind, text, place, look) of all words of a text."""
        found = []
        at = 0
        for kind, word, look in pieces_of(self._words, text):
            found.append((kind, word, at, look))
            at = at + len(word)
        return found

    def reading_of(self, row):
        """What a row of kinds reads to."""
        if self.has_table():
            return self.reading_by_table(row)
        plain = self._parts.plain()
        facts = facts_of(plain, row)
        forest = Forest(facts, row)
        if forest.is_read():
            return Reading(self._parts.led_out(forest.shape_at(0)), forest.how_many(), None, [])
        chart = Chart(plain, row)
        return Reading(None, 0, chart.bad(), chart.next_kinds(chart.bad()))

    def reading_by_table(self, row):
        try:
            shape = run_kinds(self._table, row)
        except Stop as found:
            return Reading(None, 0, found.at, found.may_kinds)
        return Reading(self._parts.led_out(shape), 1, None, [])


class Reading:
    """What a row of kinds reads to.

    shape: the least one, None where the row does not read; many: how many there are;
    stop: the place up to which the row begins some text, None where it reads; may_kinds: what may stand there.
    """

    def __init__(self, shape, many, stop, may_kinds):
        self.shape = shape
        self.many = many
        self.stop = stop
        self.may_kinds = may_kinds
