"""Relations of rules, which downs ups hang on, and whether some tree has a ring."""

from tongueyard.clean import need_no_bars
from tongueyard.errors import RoundWorths, TooMany
from tongueyard.instances import behind_order
from tongueyard.judge_worths import JudgedOrders
from tongueyard.reckoning import read_by

CHOICES = 300
NODES = 120


class Relations:
    """All relations that trees of a grammar's rules have.

    rows: one (label, parts, relation) for each rule and relation, those of the least trees first;
    chosen: all (label, parts), in the order of how many labels such trees have at least.
    """

    def __init__(self, grammar, tally, limit):
        need_no_bars(grammar)
        self.orders = JudgedOrders(grammar, tally)
        self._grammar = grammar
        self._limit = limit
        self._names = {label: [name for _, name in self.orders.names_in(label)] for label in grammar.labels()}
        # The numbers of the rows of each rule, and of each row how many labels its tree has.
        self._numbers = {name: [] for name, _ in grammar.rules()}
        self._sizes = []
        self.rows = []
        self.chosen = []
        self.need_few()
        due = [(1, at, ()) for at, label in enumerate(self._names) if not self._names[label]]
        while due:
            first = min(due)
            due.remove(first)
            due.extend(self.choose(first))

    def need_few(self):
        """Refuses more choices than the limit; they only ever become more."""
        many = 0
        for names in self._names.values():
            ways = 1
            for name in names:
                ways = ways * len(self._numbers[name])
            many = many + ways
        if many > self._limit:
            raise TooMany(self._limit)

    def choose(self, choice):
        """Takes the choice (labels, label's number, parts); what can be chosen by what is new then."""
        size, at, parts = choice
        label = list(self._names)[at]
        self.chosen.append((label, parts))
        name = self._grammar.rule_of(label)
        relation = self.orders.comes_of(label, self.relations_of(parts))
        if relation in [self.rows[number][2] for number in self._numbers[name]]:
            return []
        self._numbers[name].append(len(self.rows))
        self.rows.append((label, parts, relation))
        self._sizes.append(size)
        self.need_few()
        return self.chosen_with(name, len(self.rows) - 1)

    def relations_of(self, parts):
        """The relations of parts, a choice."""
        return tuple([self.rows[part][2] for part in parts])

    def chosen_with(self, name, number):
        """The list of all choices with a row, the newest one, among their parts."""
        found = []
        for at, label in enumerate(self._names):
            names = self._names[label]
            for place in range(len(names)):
                if names[place] == name:
                    # What stands ahead of its first place is some row ahead.
                    ahead = [[one for one in self._numbers[other] if one != number] for other in names[:place]]
                    behind = [list(self._numbers[other]) for other in names[place + 1:]]
                    found.extend([(1 + sum([self._sizes[part] for part in parts]), at, parts)
                                  for parts in ways_through(ahead + [[number]] + behind)])
        return found


def ways_through(lists):
    """All tuples of one member of each list, in order."""
    ways = [()]
    for members in lists:
        ways = [way + (member,) for way in ways for member in members]
    return ways


def relations(grammar, tally, *, limit=CHOICES):
    """The list of rows (label, parts, relation): one for each rule and relation that some tree has."""
    return Relations(grammar, tally, limit).rows


def round_paper(grammar, tally, *, limit=CHOICES):
    """The paper that no tree of any rule has a ring, or that those of a shape have one."""
    found = Relations(grammar, tally, limit)
    rows = []
    for label, parts in found.chosen:
        choice = found.relations_of(parts)
        hung = found.orders.hung(label, choice)
        try:
            order = behind_order(list(hung), hung)
        except RoundWorths as ring:
            made = tuple([row[:2] for row in found.rows])
            return "round", tally, made + ((label, parts),), tuple(ring.circle)
        rows.append((label, choice, tuple(order)))
    return "orders", tally, tuple(rows)


def shape_of_rows(rows, *, number=None, limit=NODES):
    """The shape of a row of rows (label, parts), or longer ones, the last one where no number is told."""
    last = len(rows) - 1 if number is None else number
    sizes = []
    for row in rows[:last + 1]:
        sizes.append(1 + sum([sizes[part] for part in row[1]]))
    if sizes[last] > limit:
        raise TooMany(limit)
    shape = []
    due = [last]
    while due:
        label, parts = rows[due.pop()][:2]
        shape.append(label)
        due.extend(parts[::-1])
    return tuple(shape)


def one_walk(grammar, tally):
    """None, or the first due (label, place, attribute) whose sum reads what a walk has not told by then."""
    for label, place, attribute, expression in tally[1]:
        if place > 0 and [1 for at, _ in read_by(expression) if at >= place]:
            return label, place, attribute
    return None
