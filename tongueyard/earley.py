"""The facts of a row of kinds, place by place, as kinds are taken."""

from tongueyard.clean import Clean


class Facts:
    """All facts of the kinds taken so far, of the clean alternatives alone.

    Of each place: sets: a dict of the facts (label, dot, first) that end there; waiting: by the symbol that is
    next the list of these; ended: a dict of the (rule, first) of which a whole fact ends there.
    """

    def __init__(self, grammar):
        self.clean = Clean(grammar)
        self.top = grammar.begin()
        self.rows = {}
        self.homes = {}
        for name, alternatives in self.clean.alternatives.items():
            for label, row in alternatives:
                self.rows[label] = row
                self.homes[label] = name
        self.sets = []
        self.waiting = []
        self.ended = []
        self._due = []
        self.add_place([(label, 0, 0) for label, _ in self.clean.alternatives.get(self.top, [])])

    def take(self, kind):
        """Takes one more kind, whatever text."""
        passed = [] if kind in self.clean.alternatives else self.waiting[-1].get(kind, [])
        self.add_place([(label, dot + 1, first) for label, dot, first in passed])

    def drop(self):
        """Takes the last kind back."""
        self.sets.pop()
        self.waiting.pop()
        self.ended.pop()

    def is_dead(self):
        """Whether no text of the grammar begins with the kinds taken."""
        return len(self.sets[-1]) == 0

    def may_end(self, at):
        """Whether the first kinds, so many, are a text."""
        return (self.top, 0) in self.ended[at]

    def next_kinds(self, at):
        """The list of the kinds that can stand behind the first ones, so many."""
        return [symbol for symbol in self.waiting[at] if symbol not in self.clean.alternatives]

    def add_place(self, facts):
        """Adds a place at which some facts end, and all that come with them."""
        self.sets.append({})
        self.waiting.append({})
        self.ended.append({})
        for fact in facts:
            self.put(fact)
        while self._due:
            fact = self._due.pop()
            row = self.rows[fact[0]]
            if fact[1] == len(row):
                self.complete(self.homes[fact[0]], fact[2])
            else:
                self.wait(row[fact[1]], fact)

    def put(self, fact):
        if fact not in self.sets[-1]:
            self.sets[-1][fact] = True
            self._due.append(fact)

    def complete(self, name, first):
        """Leads on the facts that wait for a rule at the place where a whole fact of it begins."""
        if (name, first) not in self.ended[-1]:
            self.ended[-1][(name, first)] = True
            waiting = list(self.waiting[first].get(name, []))
            for label, dot, start in waiting:
                self.put((label, dot + 1, start))

    def wait(self, symbol, fact):
        """Lets a fact wait for the symbol that is next in it."""
        here = len(self.sets) - 1
        if symbol not in self.waiting[-1]:
            self.waiting[-1][symbol] = []
            for label, _ in self.clean.alternatives.get(symbol, []):
                self.put((label, 0, here))
        self.waiting[-1][symbol].append(fact)
        # What comes to no words may have been completed here ahead of this fact.
        if (symbol, here) in self.ended[-1]:
            self.put((fact[0], fact[1] + 1, fact[2]))


def facts_of(grammar, row):
    """The facts of a row of kinds; behind the place where it is dead there are no more places."""
    facts = Facts(grammar)
    for kind in row:
        if facts.is_dead():
            break
        facts.take(kind)
    return facts
