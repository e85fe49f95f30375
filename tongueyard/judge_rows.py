"""What the judge reckons of a grammar by itself, and the forms that papers have in common."""

from tongueyard.things import is_row_of, is_whole


class CleanRows:
    """A grammar's clean alternatives, and what rows of symbols come to.

    rows: of each clean label its row; homes: its rule; fruits: of each rule the list of its clean labels,
    none of a barren one; empty: the rules that come to no words.
    """

    def __init__(self, grammar):
        rules = grammar.rules()
        fruitful = grown(rules, [name for name, _, _ in grammar.kinds()])
        self.empty = grown(rules, [])
        self.rows = {}
        self.homes = {}
        self.fruits = {}
        for name, alternatives in rules:
            self.fruits[name] = [label for label, row in alternatives if is_made_of(row, fruitful)]
            for label, row in alternatives:
                if is_made_of(row, fruitful):
                    self.rows[label] = row
                    self.homes[label] = name
        self._firsts = {name: {} for name in self.fruits}
        self.find_firsts()

    def find_firsts(self):
        """Finds of each rule the kinds that are the first word of some words of it."""
        is_new = True
        while is_new:
            is_new = False
            for label, row in self.rows.items():
                firsts = self._firsts[self.homes[label]]
                many = len(firsts)
                firsts.update(self.begun(row, ()))
                is_new = is_new or len(firsts) > many

    def begun(self, symbols, ahead):
        """A dict of that with which symbols of clean rows begin, with an ahead."""
        found = {}
        for symbol in symbols:
            if symbol not in self.fruits:
                found[symbol] = True
                return found
            found.update(self._firsts[symbol])
            if symbol not in self.empty:
                return found
        for one in ahead:
            found[one] = True
        return found

    def is_empty(self, symbols):
        """Whether symbols come to no words."""
        return is_made_of(symbols, self.empty)

    def is_step(self, label, place):
        """Whether at a place of a clean label's row a rule stands, and all else there comes to no words."""
        row = self.rows[label]
        if not 1 <= place <= len(row) or row[place - 1] not in self.fruits:
            return False
        return self.is_empty(row[:place - 1] + row[place:])

    def standing(self, begin):
        """A dict of the rules that stand in some shape of the beginning."""
        met = {begin: True} if self.fruits[begin] else {}
        due = list(met)
        while due:
            labels = self.fruits[due.pop()]
            for label in labels:
                for symbol in self.rows[label]:
                    if symbol in self.fruits and symbol not in met:
                        met[symbol] = True
                        due.append(symbol)
        return met

    def steps(self, names):
        """The list of (rule, rule there) of all steps of some rules."""
        return [(name, self.rows[label][place - 1]) for name in names for label in self.fruits[name]
                for place in range(1, len(self.rows[label]) + 1) if self.is_step(label, place)]


def grown(rules, symbols):
    """A dict of symbols and of the names of all rules that come to rows of these alone."""
    found = {symbol: True for symbol in symbols}
    is_new = True
    while is_new:
        is_new = False
        for name, alternatives in rules:
            if name not in found and any([is_made_of(row, found) for _, row in alternatives]):
                found[name] = True
                is_new = True
    return found


def is_made_of(row, symbols):
    return all([symbol in symbols for symbol in row])


def fallen(names, steps):
    """Names in an order in which no step leads to one behind; where steps make a ring some are left out."""
    found = []
    left = list(names)
    is_new = True
    while is_new:
        is_new = False
        for name in list(left):
            if not [1 for one, other in steps if one == name and other in left]:
                left.remove(name)
                found.append(name)
                is_new = True
    return found


def are_texts(thing):
    """Whether a thing is a tuple of texts."""
    return isinstance(thing, tuple) and all([isinstance(text, str) for text in thing])


def is_tuple_of_rows(thing, many):
    """Whether a thing is a tuple of tuples of so many members."""
    return isinstance(thing, tuple) and all([is_row_of(row, many) for row in thing])


def is_number_to(thing, most):
    """Whether a thing is a whole number from 0 to a greatest one."""
    return is_whole(thing) and 0 <= thing <= most


def are_rising(things):
    """Whether each of some texts, or tuples of texts, is greater than the one ahead."""
    return all([things[at - 1] < things[at] for at in range(1, len(things))])


def has_all(found, wanted):
    """Whether a dict is there, and has all of some keys."""
    return found is not None and all([key in found for key in wanted])
