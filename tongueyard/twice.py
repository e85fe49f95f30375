"""The search for a text with two shapes."""

from tongueyard.clean import Clean
from tongueyard.earley import Facts
from tongueyard.errors import Ringed, TooMany
from tongueyard.forests import Forest
from tongueyard.known import around_rules, steps_of

TEXTS = 200


def twice(grammar, *, most=4):
    """The first text with two shapes, or of all texts the one shape of each."""
    need_no_ring(grammar)
    search = Search(grammar, most)
    lists = []
    many = 0
    for length in range(most + 1):
        rows = search.texts_of(length, TEXTS + 1 - many)
        found = []
        for row in rows:
            forest = search.forest_of_row(row)
            if forest.how_many() > 1:
                return "two", row, forest.shape_at(0), forest.shape_at(1)
            found.append((row, forest.shape_at(0)))
        many = many + len(found)
        if many > TEXTS:
            raise TooMany(TEXTS)
        lists.append(tuple(found))
    return "one", tuple(lists)


def need_no_ring(grammar):
    """Refuses a grammar with the first rule that comes to itself alone in some text."""
    clean = Clean(grammar)
    steps = steps_of(clean, list(around_rules(clean, grammar.begin())))
    for name, _ in grammar.rules():
        if name in steps and name in led_to(steps, name):
            raise Ringed(name)


def led_to(steps, name):
    """A dict of the rules to which one steps from a rule, once or more often."""
    met = {}
    due = [name]
    while due:
        led = steps[due.pop()]
        for _, _, to in led:
            if to not in met:
                met[to] = True
                due.append(to)
    return met


class Search:
    """All texts of a number of kinds in order, by their beginnings that can still become such.

    Lengths are numbers with a bit for each number of kinds, up to the most that are asked for.
    """

    def __init__(self, grammar, most):
        self._kinds = [name for name, _, _ in grammar.kinds()]
        self._all = (1 << (most + 1)) - 1
        self._facts = Facts(grammar)
        self._row = ()
        self._lengths = {kind: 2 & self._all for kind in self._kinds}
        self.reckon_lengths()
        # Of each place the spots (rule, place) that begin there, with how many kinds may come behind their ends.
        self._outer = [{self._facts.top: 1}]
        self.add_outer()

    def reckon_lengths(self):
        """Reckons the lengths of all rules that are not barren."""
        rows = self._facts.rows
        for name in self._facts.clean.alternatives:
            self._lengths[name] = 0
        grown = True
        while grown:
            grown = False
            for label, row in rows.items():
                name = self._facts.homes[label]
                lengths = self._lengths[name] | self.lengths_of(row)
                grown = grown or lengths != self._lengths[name]
                self._lengths[name] = lengths

    def lengths_of(self, symbols):
        """The lengths to which symbols come together."""
        lengths = 1
        for symbol in symbols:
            lengths = self.both(lengths, self._lengths[symbol])
        return lengths

    def both(self, one, other):
        """All sums of one of some lengths and one of others."""
        found = 0
        while other > 0:
            if other & 1:
                found = found | one
            other = other >> 1
            one = (one << 1) & self._all
        return found

    def lengths_behind(self, fact, dot):
        """The lengths of what comes behind the first symbols of a fact's row, up to the end of the text."""
        label, _, first = fact
        outer = self._outer[first].get(self._facts.homes[label], 0)
        return self.both(self.lengths_of(self._facts.rows[label][dot:]), outer)

    def add_outer(self):
        """Reckons what may come behind the nodes that begin at the last place."""
        place = len(self._outer) - 1
        here = self._outer[place]
        waiting = self._facts.waiting[place]
        grown = True
        while grown:
            grown = False
            for name in waiting:
                if name in self._facts.clean.alternatives:
                    lengths = here.get(name, 0)
                    for fact in waiting[name]:
                        lengths = lengths | self.lengths_behind(fact, fact[1] + 1)
                    grown = grown or lengths != here.get(name, 0)
                    here[name] = lengths

    def come_to(self, row):
        """Takes kinds, and takes others back, until those of a row are taken."""
        alike = 0
        while alike < min(len(row), len(self._row)) and row[alike] == self._row[alike]:
            alike += 1
        while len(self._outer) > alike + 1:
            self._outer.pop()
            self._facts.drop()
        for kind in row[alike:]:
            self._facts.take(kind)
            self._outer.append({})
            self.add_outer()
        self._row = row

    def kinds_to(self, many):
        """The list of the kinds behind which just so many more can end a text."""
        waiting = self._facts.waiting[-1]
        found = []
        for kind in self._kinds:
            facts = waiting.get(kind, [])
            if any([self.lengths_behind(fact, fact[1] + 1) >> many & 1 for fact in facts]):
                found.append(kind)
        return found

    def texts_of(self, length, limit):
        """The list of the first texts of so many kinds, so many at most."""
        rows = []
        due = [()]
        while due and len(rows) < limit:
            row = due.pop()
            self.come_to(row)
            if len(row) < length:
                kinds = self.kinds_to(length - len(row) - 1)
                due.extend([row + (kind,) for kind in kinds[::-1]])
            elif self._facts.may_end(length):
                rows.append(row)
        return rows

    def forest_of_row(self, row):
        """The forest of a row."""
        self.come_to(row)
        return Forest(self._facts, row)
