"""Texts that begin with a row of kinds."""

from tongueyard.charts import Chart
from tongueyard.clean import least_costs
from tongueyard.earley import facts_of
from tongueyard.errors import NoReading
from tongueyard.trees import spelled_by


def going_on(grammar, row):
    """A text of the fewest kinds that begins with a row of kinds."""
    facts = facts_of(grammar, row)
    if facts.is_dead():
        chart = Chart(grammar, row)
        raise NoReading(chart.bad(), chart.next_kinds(chart.bad()))
    return list(row) + Endings(grammar, facts).fewest()


class Endings:
    """The fewest kinds with which what is open in some facts comes to its end.

    A spot is (rule, place): a node of the rule that begins at the place, and is not at its end yet.
    """

    def __init__(self, grammar, facts):
        self._grammar = grammar
        self._facts = facts
        self._costs = {symbol: words for symbol, (words, _) in least_costs(grammar).items()}
        # By spots: how many kinds must come behind the node's end, and the fact that waits for it, None of the top.
        self._outer = {(facts.top, 0): 0}
        self._waits = {(facts.top, 0): None}
        for place in range(len(facts.sets)):
            self.reckon_place(place)

    def cost_of(self, fact):
        """How many kinds must come for a fact to be whole, and all around it behind that."""
        label, dot, first = fact
        rest = self._facts.rows[label][dot:]
        return self._outer[(self._facts.homes[label], first)] + sum([self._costs[symbol] for symbol in rest])

    def reckon_place(self, place):
        """Reckons the spots that begin at a place; those further ahead are reckoned."""
        spots = [(name, fact) for name, waiting in self._facts.waiting[place].items()
                 if name in self._facts.clean.alternatives for fact in waiting]
        grown = True
        while grown:
            grown = False
            for name, fact in spots:
                if (self._facts.homes[fact[0]], fact[2]) in self._outer:
                    # The symbol that is next is the node itself.
                    cost = self.cost_of(fact) - self._costs[name]
                    if (name, place) not in self._outer or cost < self._outer[(name, place)]:
                        self._outer[(name, place)] = cost
                        self._waits[(name, place)] = fact
                        grown = True

    def fewest(self):
        """The list of the fewest kinds that come behind the last place."""
        fact = None
        for one in self._facts.sets[-1]:
            if fact is None or self.cost_of(one) < self.cost_of(fact):
                fact = one
        kinds = self.least_words(fact[0], fact[1])
        waits = self._waits[(self._facts.homes[fact[0]], fact[2])]
        while waits is not None:
            kinds.extend(self.least_words(waits[0], waits[1] + 1))
            waits = self._waits[(self._facts.homes[waits[0]], waits[2])]
        return kinds

    def least_words(self, label, dot):
        """The list of the fewest kinds to which the symbols of a row come from one on."""
        kinds = []
        rest = self._facts.rows[label][dot:]
        for symbol in rest:
            if symbol in self._facts.clean.alternatives:
                kinds.extend(spelled_by(self._grammar, self._facts.clean.shapes[symbol], name=symbol))
            else:
                kinds.append(symbol)
        return kinds
