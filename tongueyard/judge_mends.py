"""The judge of papers of mends: that so many deeds do, and that no fewer ones do."""

from tongueyard.judge_rows import CleanRows, are_texts, is_tuple_of_rows
from tongueyard.names import is_name
from tongueyard.things import is_row_of, is_whole
from tongueyard.trees import is_shape


def mends_hold(grammar, paper):
    """Whether a tuple that begins with "mend" or "nofewer" is a paper that holds."""
    if not is_row_of(paper, 4) or len(grammar.bars()) > 0 or not are_texts(paper[1]):
        return False
    if paper[0] == "mend":
        return mend_holds(grammar, paper[1], paper[2], paper[3])
    return paper[0] == "nofewer" and no_fewer_holds(grammar, paper[1], paper[2], paper[3])


def mend_holds(grammar, row, deeds, shape):
    """Whether deeds can be done on a row, and what comes has a shape of the beginning."""
    if not isinstance(deeds, tuple) or not isinstance(shape, tuple):
        return False
    made = made_by(row, deeds)
    return made is not None and is_shape(grammar, shape, made)


def made_by(row, deeds):
    """The list of kinds that deeds make of a row, or None where they can't be done."""
    made = []
    at = 0
    for deed in deeds:
        if not is_deed(deed):
            return None
        word = deed[0]
        if word != "put":
            if at == len(row) or (word == "turn" and deed[1] == row[at]):
                return None
            if word == "keep":
                made.append(row[at])
            at += 1
        if word == "put" or word == "turn":
            made.append(deed[1])
    return made if at == len(row) else None


def is_deed(thing):
    """Whether a thing has the form of a deed."""
    if not isinstance(thing, tuple) or not all([isinstance(part, str) for part in thing]):
        return False
    if len(thing) == 2:
        return thing[0] in ("put", "turn") and is_name(thing[1])
    return len(thing) == 1 and thing[0] in ("keep", "drop")


def no_fewer_holds(grammar, row, many, lows):
    """Whether lows have the places that are due, fit together, and show that no fewer deeds than so many do."""
    if not is_whole(many) or not is_tuple_of_rows(lows, 5):
        return False
    clean = CleanRows(grammar)
    if not clean.fruits[grammar.begin()]:
        return False
    # Of a long row the places are told one by one only where they are as many as the lows.
    if len(lows) != how_many_due(clean, len(row)) or not are_places(lows, due_places(clean, len(row))):
        return False
    judged = JudgedLows(clean, row, lows)
    return judged.fit() and many <= judged.low_of(grammar.begin(), 0, len(row))


def how_many_due(clean, many):
    """How many places are due for a row of so many kinds."""
    spans = (many + 1) * (many + 2) // 2
    return sum([many + 1 + len(row) * spans if row else spans for row in clean.rows.values()])


def due_places(clean, many):
    """The list of the (label, dot, first, behind) that are due, in order."""
    due = []
    for label, row in clean.rows.items():
        for dot in range(len(row) + 1):
            for first in range(many + 1):
                last = first if dot == 0 and len(row) > 0 else many
                due.extend([(label, dot, first, behind) for behind in range(first, last + 1)])
    return due


def are_places(lows, due):
    """Whether lows are whole numbers at just these places, as many as they are, in this order."""
    for (label, dot, first, behind, low), place in zip(lows, due):
        if not isinstance(label, str) or not all([is_whole(number) for number in (dot, first, behind, low)]):
            return False
        if (label, dot, first, behind) != place:
            return False
    return True


class JudgedLows:
    """Lows at the places that are due for a row of kinds."""

    def __init__(self, clean, row, lows):
        self._clean = clean
        self._row = row
        self._lows = {(label, dot, first, behind): low for label, dot, first, behind, low in lows}
        self._names = {}

    def low_of(self, symbol, first, behind):
        """The low of a symbol: a name's is the least one of its whole labels'."""
        if symbol in self._clean.fruits:
            asked = (symbol, first, behind)
            if asked not in self._names:
                self._names[asked] = min([self._lows[(label, len(self._clean.rows[label]), first, behind)]
                                          for label in self._clean.fruits[symbol]])
            return self._names[asked]
        if first == behind:
            return 1
        return behind - first - (1 if symbol in self._row[first:behind] else 0)

    def fit(self):
        """Whether no low is more than those of one dot less allow."""
        for (label, dot, first, behind), low in self._lows.items():
            row = self._clean.rows[label]
            if dot == 0:
                if low > behind - first:
                    return False
            else:
                # Where dot is 1 the symbols ahead are none, and come to no kinds alone.
                last = first if dot == 1 else behind
                if not all([low <= self._lows[(label, dot - 1, first, between)]
                            + self.low_of(row[dot - 1], between, behind) for between in range(first, last + 1)]):
                    return False
        return True
