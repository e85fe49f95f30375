"""The clean alternatives of a grammar without bars, and the least shapes of its rules."""

from tongueyard.errors import Barred


def need_no_bars(grammar):
    """Refuses a grammar with bars."""
    for label, _, _ in grammar.bars():
        raise Barred(label)


class Clean:
    """A grammar's clean alternatives, and the least shapes of its rules that are not barren.

    shapes: by the rules, in the grammar's order; empty: the rules of which a shape has no words;
    alternatives: by the rules that are not barren the lists of their clean (label, row).
    """

    def __init__(self, grammar):
        need_no_bars(grammar)
        costs = least_costs(grammar)
        self.alternatives = {}
        for name, alternatives in grammar.rules():
            if name in costs:
                self.alternatives[name] = [one for one in alternatives if cost_of_row(one[1], costs) is not None]
        self.empty = {name: True for name in self.alternatives if costs[name][0] == 0}
        self.shapes = {name: () for name in self.alternatives}
        # A part of a least shape costs less than the whole, so it is there ahead of it.
        for cost, name in sorted([(costs[name], name) for name in self.alternatives]):
            label, row = [one for one in self.alternatives[name] if cost_of_row(one[1], costs) == cost][0]
            self.shapes[name] = (label,) + self.least_of(row)

    def least_of(self, row):
        """The labels of the least shapes of a row's rules, one behind the other."""
        labels = ()
        for symbol in row:
            labels = labels + self.shapes.get(symbol, ())
        return labels

    def least_with(self, row, at, inner):
        """The same, with other labels in the place of one symbol's."""
        return self.least_of(row[:at]) + inner + self.least_of(row[at + 1:])

    def is_empty(self, row):
        """Whether a row is one of rules that can be empty."""
        return all([symbol in self.empty for symbol in row])

    def spots(self, names):
        """The list of (rule, label, row, at) of all rules in the clean alternatives of some rules."""
        return [(name, label, row, at) for name in names for label, row in self.alternatives[name]
                for at, symbol in enumerate(row) if symbol in self.shapes]


def least_costs(grammar):
    """For each kind, and each rule that is not barren, (words, labels) of its least shapes."""
    costs = {name: (1, 0) for name, _, _ in grammar.kinds()}
    rules = grammar.rules()
    grown = True
    while grown:
        grown = False
        for name, alternatives in rules:
            for _, row in alternatives:
                cost = cost_of_row(row, costs)
                if cost is not None and (name not in costs or cost < costs[name]):
                    costs[name] = cost
                    grown = True
    return costs


def cost_of_row(row, costs):
    """(words, labels) of the least shapes with an alternative's row, None where a rule in it has none yet."""
    words = 0
    labels = 1
    for symbol in row:
        if symbol not in costs:
            return None
        words = words + costs[symbol][0]
        labels = labels + costs[symbol][1]
    return words, labels
