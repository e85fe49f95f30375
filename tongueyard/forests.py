"""All shapes of a row of kinds at once: how many they are, and each by its number."""


class Forest:
    """What is in the shapes of a row of kinds.

    A node is (rule, first, behind); a part of one is (label, dot, first, behind), the first symbols of its row.
    """

    def __init__(self, facts, row):
        self._facts = facts
        self._row = row
        self._top = (facts.top, 0, len(row))
        # Of each place, by rules, where their nodes begin that end there.
        self._starts = []
        for whole in facts.ended:
            starts = {}
            for name, first in whole:
                starts.setdefault(name, []).append(first)
            self._starts.append(starts)
        self._ways = {}
        self._has_ring = False
        order = self.dig() if self.is_read() else []
        self._counts = {}
        if not self._has_ring:
            for key in order:
                self._counts[key] = self.count_of(key)

    def is_read(self):
        """Whether the row has a shape."""
        return len(self._facts.sets) == len(self._row) + 1 and self._facts.may_end(len(self._row))

    def is_endless(self):
        """Whether the shapes are endless."""
        return self._has_ring

    def how_many(self):
        """How many shapes the row has; none may be endless."""
        return self._counts.get(self._top, 0)

    def dig(self):
        """The list of all nodes and parts of shapes, each behind all within it where there is no ring."""
        order = []
        is_open = {}
        due = [(self._top, False)]
        while due:
            key, is_done = due.pop()
            if is_done:
                is_open[key] = False
                order.append(key)
            elif key not in is_open:
                is_open[key] = True
                due.append((key, True))
                self._ways[key] = self.ways_of(key)
                for part in parts_in(self._ways[key]):
                    if part not in is_open:
                        due.append((part, False))
                    elif is_open[part]:
                        self._has_ring = True
        return order

    def ways_of(self, key):
        """The list of the ways in which a node or a part is made, each a tuple of nodes and parts."""
        if len(key) == 3:
            name, first, behind = key
            labels = [label for label, _ in self._facts.clean.alternatives[name]]
            return [((label, len(self._facts.rows[label]), first, behind),) for label in labels
                    if (label, len(self._facts.rows[label]), first) in self._facts.sets[behind]]
        label, dot, first, behind = key
        if dot == 0:
            return [()]
        symbol = self._facts.rows[label][dot - 1]
        if symbol not in self._facts.clean.alternatives:
            return [((label, dot - 1, first, behind - 1),)]
        return [((label, dot - 1, first, middle), (symbol, middle, behind))
                for middle in self._starts[behind].get(symbol, [])
                if (label, dot - 1, first) in self._facts.sets[middle]]

    def count_of(self, key):
        """In how many ways a node or a part can be, those within it being counted."""
        many = 0
        for way in self._ways[key]:
            product_of = 1
            for part in way:
                product_of = product_of * self._counts[part]
            many = many + product_of
        return many

    def ringed(self):
        """A dict of the rules of which a node has one of the same rule beneath it over the same kinds."""
        found = {}
        if self._has_ring:
            for key in self._ways:
                if len(key) == 3 and key[0] not in found and self.is_ringed(key):
                    found[key[0]] = True
        return found

    def is_ringed(self, node):
        """Whether a node comes to itself over the same kinds."""
        met = {}
        due = [node]
        while due:
            within = parts_in(self._ways[due.pop()])
            for part in within:
                if part == node:
                    return True
                if part[-2:] == node[-2:] and part not in met:
                    met[part] = True
                    due.append(part)
        return False

    def shape_at(self, number):
        """The shape with a number, which there must be."""
        climb = Climb(self)
        while climb.is_due():
            taken = None
            for label, many in climb.choices():
                if taken is None and number < many:
                    taken = label
                elif taken is None:
                    number = number - many
            climb.take(taken)
        return tuple(climb.path)

    def place_of(self, shape):
        """The number of a shape, which must be one of the row's."""
        number = 0
        climb = Climb(self)
        for taken in shape:
            choices = climb.choices()
            labels = [label for label, _ in choices]
            number = number + sum([many for _, many in choices[:labels.index(taken)]])
            climb.take(taken)
        return number

    def top_symbol(self):
        return self._facts.top

    def end(self):
        return len(self._row)

    def labels_with(self, name, first, ends):
        """The list of (label, in how many ways): of a rule from a place on, ends being by places the ways behind."""
        return [(label, sum([self._counts.get((label, len(row), first, behind), 0) * many
                             for behind, many in ends.items()]))
                for label, row in self._facts.clean.alternatives[name]]

    def row_of(self, label):
        return self._facts.rows[label]

    def is_rule(self, symbol):
        return symbol in self._facts.clean.alternatives

    def starts_of(self, symbol, ends):
        """By places in how many ways a symbol from there on is followed by what ends tells likewise."""
        found = {}
        for behind, many in ends.items():
            if self.is_rule(symbol):
                starts = [(first, self._counts.get((symbol, first, behind), 0))
                          for first in self._starts[behind].get(symbol, [])]
            else:
                fits = behind > 0 and self._row[behind - 1] == symbol
                starts = [(behind - 1, 1)] if fits else []
            for first, ways in starts:
                if ways > 0:
                    found[first] = found.get(first, 0) + ways * many
        return found


class Climb:
    """A shape that is made label by label, with the ways in which it can go on."""

    def __init__(self, forest):
        self._forest = forest
        self._at = 0
        # What is due, the next one last: (symbol, by places the ways in which what is behind it can be).
        self._due = [(forest.top_symbol(), {forest.end(): 1})]
        self.path = []

    def is_due(self):
        return len(self._due) > 0

    def choices(self):
        """The list of (label, in how many ways the shape can be with it) for the next label."""
        name, ends = self._due[-1]
        return self._forest.labels_with(name, self._at, ends)

    def take(self, label):
        _, ends = self._due.pop()
        self.path.append(label)
        row = self._forest.row_of(label)
        for symbol in row[::-1]:
            self._due.append((symbol, ends))
            ends = self._forest.starts_of(symbol, ends)
        while self._due and not self._forest.is_rule(self._due[-1][0]):
            self._due.pop()
            self._at += 1


def parts_in(ways):
    """The list of all nodes and parts in some ways."""
    return [part for way in ways for part in way]
