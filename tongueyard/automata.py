"""The states of a grammar, split and merged, with the gos between them."""

from tongueyard.clean import Clean
from tongueyard.errors import TooMany
from tongueyard.grammars import END
from tongueyard.known import firsts_of


class Items:
    """The items of a grammar without bars.

    Within states an item is (label's number, dot), the whole's number being 0; aheads are numbers, a bit for each
    kind and for the end. So items sort as they are told, and aheads are put together at once.
    """

    def __init__(self, grammar):
        self.clean = Clean(grammar)
        self.firsts = firsts_of(self.clean)
        self.ends = [name for name, _, _ in grammar.kinds()] + [END]
        self.symbols = self.ends + [name for name, _ in grammar.rules()]
        self.heads = [END]
        self.rows = [(grammar.begin(),)]
        self.homes = [None]
        self._numbers = {}
        for name, alternatives in self.clean.alternatives.items():
            for label, row in alternatives:
                self._numbers.setdefault(name, []).append(len(self.heads))
                self.heads.append(label)
                self.rows.append(row)
                self.homes.append(name)
        self._bits = {end: 1 << at for at, end in enumerate(self.ends)}
        self._rests = {}
        for number, row in enumerate(self.rows):
            for dot in range(len(row)):
                rest = row[dot + 1:]
                self._rests[(number, dot)] = (self.mask_of(begun(self, rest, [])), self.clean.is_empty(rest))

    def mask_of(self, aheads):
        """The number of an ahead."""
        return sum([self._bits[end] for end in sorted(set(aheads))])

    def ahead_of(self, mask):
        """The sorted tuple of an ahead's members."""
        return tuple(sorted([end for end, bit in self._bits.items() if mask & bit]))

    def next_of(self, item):
        """The symbol that is next in an item, or None."""
        row = self.rows[item[0]]
        return row[item[1]] if item[1] < len(row) else None

    def started(self):
        """The items of state 0 that come of nothing else, with their aheads."""
        barren = self.rows[0][0] not in self.clean.alternatives
        return {} if barren else {(0, 0): self._bits[END]}

    def numbers_of(self, symbol):
        """The numbers of the clean labels of a symbol, none of a kind."""
        return self._numbers.get(symbol, [])

    def led_ahead(self, item, mask):
        """The ahead with which the symbol next in an item is put in."""
        rest, is_empty = self._rests[item]
        return rest | mask if is_empty else rest

    def closed(self, items):
        """Items with all that come of them, each with its ahead."""
        found = {item: mask for item, mask in items.items()}
        due = list(found)
        while due:
            item = due.pop()
            numbers = self.numbers_of(self.next_of(item))
            for number in numbers:
                mask = found.get((number, 0), 0)
                more = mask | self.led_ahead(item, found[item])
                if more != mask or (number, 0) not in found:
                    found[(number, 0)] = more
                    due.append((number, 0))
        return found

    def gone(self, items):
        """By the symbols that are next in items, in their order, the items behind each one, not closed."""
        by_symbol = {}
        for item, mask in items.items():
            symbol = self.next_of(item)
            if symbol is not None:
                by_symbol.setdefault(symbol, {})[(item[0], item[1] + 1)] = mask
        return {symbol: by_symbol[symbol] for symbol in self.symbols if symbol in by_symbol}

    def told_items(self, items):
        """The tuple of a state's items as they are told."""
        return tuple([(self.heads[number], dot, self.ahead_of(mask)) for (number, dot), mask in sorted(items.items())])


def begun(items, symbols, ahead):
    """The list of that with which symbols begin, with an ahead; some of it may stand there twice."""
    found = []
    for symbol in symbols:
        found.extend(list(items.firsts[symbol]) if symbol in items.firsts else [symbol])
        if symbol not in items.clean.empty:
            return found
    return found + list(ahead)


class States:
    """States, numbered as they are met.

    found: of each its items with their aheads; gos: of each that was led on, by symbols, where it leads.
    """

    def __init__(self, items, limit):
        self.base = items
        self.found = []
        self.gos = []
        self.limit = limit
        # Whether there are more states than the limit lets be found.
        self.has_more = False
        self._known = {}

    def number_of(self, items, key):
        """The number of the state that is made of items, None where it is one more than the limit."""
        if key not in self._known:
            if len(self.found) == self.limit:
                self.has_more = True
                return None
            self._known[key] = len(self.found)
            self.found.append(self.base.closed(items))
        return self._known[key]

    def lead(self, is_split):
        """Finds where the first state leads that was not led on; split ones are alike by their aheads, too."""
        gos = {}
        gone = self.base.gone(self.found[len(self.gos)])
        for symbol, items in gone.items():
            key = tuple(sorted(items.items())) if is_split else tuple(sorted(items))
            to = self.number_of(items, key)
            if to is not None:
                gos[symbol] = to
        self.gos.append(gos)

    def begin(self):
        self.number_of(self.base.started(), ())

    def is_done(self):
        """Whether all states that were found are led on."""
        return len(self.gos) == len(self.found)

    def told(self):
        """The list of the states as they are told."""
        return [self.base.told_items(items) for items in self.found]


def found_ones(items, limit, is_split):
    """All states, split ones or such as are alike but for their aheads; refuses more than a limit."""
    states = States(items, limit)
    states.begin()
    while not states.is_done():
        states.lead(is_split)
        if states.has_more:
            raise TooMany(limit)
    return states


def merged_ones(items, limit):
    """All merged states; refuses more than a limit."""
    states = found_ones(items, limit, False)
    put_aheads(states)
    return states


def put_aheads(states):
    """Leads the aheads on along all gos until nothing new comes."""
    due = list(range(len(states.found)))
    while due:
        number = due.pop()
        gone = states.base.gone(states.found[number])
        for symbol, items in gone.items():
            to = states.gos[number][symbol]
            there = states.found[to]
            if [item for item, mask in items.items() if there[item] | mask != there[item]]:
                states.found[to] = states.base.closed({item: there.get(item, 0) | items.get(item, 0) for item in there})
                if to not in due:
                    due.append(to)
