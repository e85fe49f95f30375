"""The fewest deeds by which the kinds of a row become what symbols come to."""

from tongueyard.clean import Clean
from tongueyard.errors import NoMend


class Lowest:
    """lows: by (label, dot, first, behind) the fewest deeds, of dot 0 only where such are promised.

    Of each name's kinds from first to behind its best label is kept, of each further dot where its last symbol begins.
    """

    def __init__(self, grammar, row):
        self.clean = Clean(grammar)
        self.row = list(row)
        self.begin_name = grammar.begin()
        if self.begin_name not in self.clean.shapes:
            raise NoMend()
        self._rows = [(name, label, symbols) for name, alternatives in self.clean.alternatives.items()
                      for label, symbols in alternatives]
        self.lows = {}
        # By (name, first, behind) the fewest deeds and the label that needs no more.
        self._names = {}
        self._middles = {}
        for many in range(len(self.row) + 1):
            for first in range(len(self.row) + 1 - many):
                self.reckon(first, first + many)

    def reckon(self, first, behind):
        """Reckons the lows from first to behind; those of fewer kinds within are reckoned."""
        for _, label, symbols in self._rows:
            if first == behind or not symbols:
                self.lows[(label, 0, first, behind)] = behind - first
        grown = True
        while grown:
            grown = False
            for name, label, symbols in self._rows:
                for dot in range(1, len(symbols) + 1):
                    self.take_low(label, dot, symbols[dot - 1], first, behind)
                low = self.lows.get((label, len(symbols), first, behind))
                known = self._names.get((name, first, behind))
                if low is not None and (known is None or low < known[0]):
                    self._names[(name, first, behind)] = (low, label)
                    grown = True

    def take_low(self, label, dot, symbol, first, behind):
        """Takes the fewest deeds that are known for the first symbols of a label, the last one told."""
        for middle in range(first, behind + 1):
            ahead = self.lows.get((label, dot - 1, first, middle))
            low = self.low_of(symbol, middle, behind)
            if ahead is not None and low is not None:
                known = self.lows.get((label, dot, first, behind))
                if known is None or ahead + low < known:
                    self.lows[(label, dot, first, behind)] = ahead + low
                    self._middles[(label, dot, first, behind)] = middle

    def low_of(self, symbol, first, behind):
        """The fewest deeds for one symbol, None where none are known yet."""
        if symbol in self.clean.shapes:
            known = self._names.get((symbol, first, behind))
            return None if known is None else known[0]
        if first == behind:
            return 1
        return behind - first - (1 if symbol in self.row[first:behind] else 0)

    def fewest(self):
        """The fewest deeds that make the row a text."""
        return self.low_of(self.begin_name, 0, len(self.row))

    def deeds_and_shape(self):
        """The list of fewest deeds that make the row a text, and a shape of it."""
        deeds = []
        shape = []
        due = [(self.begin_name, 0, len(self.row))]
        while due:
            symbol, first, behind = due.pop()
            if symbol in self.clean.shapes:
                _, label = self._names[(symbol, first, behind)]
                shape.append(label)
                due.extend(self.parts_of_label(symbol, label, first, behind))
                if not self.symbols_of(symbol, label):
                    deeds.extend([("drop",)] * (behind - first))
            else:
                deeds.extend(self.deeds_to(symbol, first, behind))
        return deeds, tuple(shape)

    def symbols_of(self, name, label):
        return [symbols for other, symbols in self.clean.alternatives[name] if other == label][0]

    def parts_of_label(self, name, label, first, behind):
        """The list of (symbol, first, behind) of a label's symbols, the last one first."""
        symbols = self.symbols_of(name, label)
        parts = []
        for dot in range(len(symbols), 0, -1):
            middle = self._middles[(label, dot, first, behind)]
            parts.append((symbols[dot - 1], middle, behind))
            behind = middle
        return parts

    def deeds_to(self, kind, first, behind):
        """The list of fewest deeds that make some kinds one."""
        if first == behind:
            return [("put", kind)]
        kinds = self.row[first:behind]
        if kind not in kinds:
            return [("turn", kind)] + [("drop",)] * (len(kinds) - 1)
        at = kinds.index(kind)
        return [("drop",)] * at + [("keep",)] + [("drop",)] * (len(kinds) - 1 - at)
