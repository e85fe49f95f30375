"""Layouts of grammars: what is wished between the symbols of alternatives."""

from tongueyard.errors import NoLabel, NoLayout

MARKS = ("near", "blank", "row", "in", "out", "soft")


class Layout:
    def __init__(self, grammar, marks):
        for label, thing in marks.items():
            if not grammar.is_label(label) or not are_marks(thing, gaps_in(grammar, label)):
                raise NoLayout(label)
        self.grammar = grammar
        self._marks = {label: tuple(marks.get(label, ("near",) * gaps_in(grammar, label)))
                       for label in grammar.labels()}

    def marks_of(self, label):
        if label not in self._marks:
            raise NoLabel(label)
        return self._marks[label]

    def __eq__(self, other):
        return isinstance(other, Layout) and self.grammar == other.grammar and self._marks == other._marks


def gaps_in(grammar, label):
    """How many marks a label has: one between each two symbols."""
    return max(0, len(grammar.row_of(label)) - 1)


def are_marks(thing, many):
    """Whether a thing, of any kind, is a tuple of so many marks in which each "out" has an "in" ahead."""
    if not isinstance(thing, tuple) or len(thing) != many:
        return False
    depth = 0
    for mark in thing:
        if not isinstance(mark, str) or mark not in MARKS:
            return False
        if mark == "in":
            depth += 1
        elif mark == "out":
            depth -= 1
        if depth < 0:
            return False
    return depth == 0
