"""The judge of tables."""

from tongueyard.grammars import END
from tongueyard.judge_rows import CleanRows, has_all, is_number_to
from tongueyard.things import is_row_of, is_whole


def table_holds(grammar, paper):
    """Whether ("table", table) holds."""
    if not is_row_of(paper, 2) or not is_row_of(paper[1], 2):
        return False
    labels, deeds = paper[1]
    if not isinstance(labels, tuple) or not isinstance(deeds, tuple) or not 1 <= len(labels) == len(deeds):
        return False
    judged = JudgedTable(grammar)
    if not all([judged.is_state(state) for state in labels]):
        return False
    if not all([is_dict_of_deeds(one, len(labels)) for one in deeds]):
        return False
    return judged.begins_right(labels) and judged.leads_right(labels, deeds)


def is_dict_of_deeds(thing, many):
    """Whether a thing is a dict from texts to deeds of a table of so many states."""
    if not isinstance(thing, dict):
        return False
    return all([isinstance(symbol, str) and is_table_deed(deed, many) for symbol, deed in thing.items()])


def is_table_deed(thing, many):
    """Whether a thing has the form of a deed; a go leads to a state, but never to state 0."""
    if not isinstance(thing, tuple) or len(thing) == 0 or not isinstance(thing[0], str):
        return False
    if thing[0] == "go":
        return len(thing) == 2 and is_number_to(thing[1], many - 1) and thing[1] > 0
    if thing[0] == "by":
        return len(thing) == 4 and isinstance(thing[1], str) and is_whole(thing[2]) and isinstance(thing[3], str)
    return thing == ("done",)


class JudgedTable:
    """What is asked of a table of a grammar, state by state."""

    def __init__(self, grammar):
        self._clean = CleanRows(grammar)
        self._begin = grammar.begin()
        self._ends = {name: True for name, _, _ in grammar.kinds()}
        self._ends[END] = True

    def row_of(self, label):
        """The symbols of a clean label, or of the whole."""
        return (self._begin,) if label == END else self._clean.rows[label]

    def next_of(self, item):
        """The symbol next in an item, or None."""
        row = self.row_of(item[0])
        return row[item[1]] if item[1] < len(row) else None

    def is_state(self, thing):
        """Whether a thing is a tuple of items, no two of one label and dot."""
        if not isinstance(thing, tuple) or not all([self.is_item(item) for item in thing]):
            return False
        return len(set([item[:2] for item in thing])) == len(thing)

    def is_item(self, thing):
        """Whether a thing is an item; the whole's ahead is the end alone."""
        if not is_row_of(thing, 3) or not isinstance(thing[0], str) or not isinstance(thing[2], tuple):
            return False
        label, dot, ahead = thing
        if label != END and label not in self._clean.rows:
            return False
        if not is_number_to(dot, len(self.row_of(label))):
            return False
        if not all([isinstance(kind, str) and kind in self._ends for kind in ahead]):
            return False
        return len(set(ahead)) == len(ahead) and (label != END or ahead == (END,))

    def begins_right(self, labels):
        """Whether just state 0 has the whole with dot 0, or, where the beginning is barren, no items."""
        if not self._clean.fruits[self._begin]:
            if labels[0]:
                return False
        elif (END, 0, (END,)) not in labels[0]:
            return False
        return not [1 for state in labels[1:] for item in state if item[0] == END and item[1] == 0]

    def leads_right(self, labels, deeds):
        """Whether all states have what is asked by their items, and lead to such as are asked."""
        aheads = [{(label, dot): members(ahead) for label, dot, ahead in state} for state in labels]
        for number, items in enumerate(aheads):
            if not self.is_closed(items) or not self.is_rooted(items):
                return False
            if not self.has_deeds(items, deeds[number], aheads):
                return False
        return True

    def is_closed(self, items):
        """Whether each item with a name next has the name's clean alternatives beside it, with enough ahead."""
        for item, ahead in items.items():
            name = self.next_of(item)
            if name in self._clean.fruits:
                wanted = self._clean.begun(self.row_of(item[0])[item[1] + 1:], ahead)
                for label in self._clean.fruits[name]:
                    if not has_all(items.get((label, 0)), wanted):
                        return False
        return True

    def is_rooted(self, items):
        """Whether each item with dot 0 is come to from one with a greater dot, or from the whole."""
        due = [item for item in items if item[1] > 0 or item[0] == END]
        met = {item: True for item in due}
        while due:
            name = self.next_of(due.pop())
            for label in self._clean.fruits.get(name, []):
                item = (label, 0)
                if item in items and item not in met:
                    met[item] = True
                    due.append(item)
        return len(met) == len(items)

    def has_deeds(self, items, deeds, aheads):
        """Whether the deeds of a state are those that its items ask for, and its gos lead aright."""
        asked = {}
        for item, ahead in items.items():
            symbol = self.next_of(item)
            if symbol is None:
                for kind in ahead:
                    if deeds.get(kind) != self.by_of(item[0]):
                        return False
                    asked[kind] = True
            else:
                to = deeds.get(symbol, ("done",))
                if to[0] != "go" or not has_all(aheads[to[1]].get((item[0], item[1] + 1)), ahead):
                    return False
                asked[symbol] = True
        return len(asked) == len(deeds) and self.gos_are_right(items, deeds, aheads)

    def by_of(self, label):
        """The deed of an item with no symbol next."""
        return ("done",) if label == END else ("by", label, len(self.row_of(label)), self._clean.homes[label])

    def gos_are_right(self, items, deeds, aheads):
        """Whether what stands behind each go of a state has passed just that symbol, from an item here."""
        for symbol, deed in deeds.items():
            if deed[0] == "go":
                passed = [(label, dot - 1) for label, dot in aheads[deed[1]] if dot > 0]
                if not all([item in items and self.next_of(item) == symbol for item in passed]):
                    return False
        return True


def members(ahead):
    return {kind: True for kind in ahead}
