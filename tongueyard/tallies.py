"""Tallies of grammars: marks tell which rules bear which attributes, sums how these are reckoned."""

from tongueyard.bars import parted
from tongueyard.errors import NoTally
from tongueyard.expressions import Reach
from tongueyard.names import is_name
from tongueyard.things import is_row_of, is_whole

MOST_MARKS = 8
MOST_BORNE = 4
MOST_DOWNS = 2
SORTS = ("number", "text", "names")
WAYS = ("up", "down")
JOINED = {"number": "plus", "text": "join", "names": "either"}
NOTHING = {"number": ("number", 0), "text": ("text", ""), "names": ("nobody",)}


class Borne:
    """What the rules of a grammar bear by right marks.

    sorts: of each attribute its sort; ups, downs: for each rule the list of those that it bears.
    """

    def __init__(self, grammar, marks):
        self._grammar = grammar
        self.sorts = {}
        self.ups = {name: [] for name, _ in grammar.rules()}
        self.downs = {name: [] for name, _ in grammar.rules()}
        for attribute, way, sort, names in marks:
            self.sorts[attribute] = sort
            for name in names:
                if way == "up":
                    self.ups[name].append(attribute)
                else:
                    self.downs[name].append(attribute)

    def due(self):
        """The list of the due (label, place, attribute)."""
        due = []
        for name, alternatives in self._grammar.rules():
            for label, row in alternatives:
                due.extend([(label, 0, attribute) for attribute in self.ups[name]])
                for at, symbol in enumerate(row):
                    due.extend([(label, at + 1, attribute) for attribute in self.downs.get(symbol, [])])
        return due

    def reach(self, label):
        """What the sums of a label may read."""
        own = self._grammar.rule_of(label)
        sorts = {(0, attribute): self.sorts[attribute] for attribute in self.downs[own]}
        words = {}
        for at, symbol in enumerate(self._grammar.row_of(label)):
            if symbol in self.ups:
                for attribute in self.ups[symbol]:
                    sorts[(at + 1, attribute)] = self.sorts[attribute]
            else:
                words[at + 1] = True
        return Reach(sorts, words)

    def filled(self, label, place, attribute):
        """The expression that is put in for a sum that lacks, or None."""
        if place > 0:
            bears = attribute in self.downs[self._grammar.rule_of(label)]
            return ("at", 0, attribute) if bears else None
        row = self._grammar.row_of(label)
        read = [("at", at + 1, attribute) for at, symbol in enumerate(row) if attribute in self.ups.get(symbol, [])]
        sort = self.sorts[attribute]
        if not read:
            return NOTHING[sort]
        made = read[0]
        for one in read[1:]:
            made = (JOINED[sort], made, one)
        return made


def due_sums(grammar, marks):
    """The list of the (label, place, attribute) that are due by right marks."""
    return Borne(grammar, marks).due()


def need_marks(grammar, marks):
    """Refuses the first mark that, with those ahead of it, is not right."""
    attributes = []
    ways = {name: [] for name, _ in grammar.rules()}
    for number, mark in enumerate(marks):
        if number == MOST_MARKS or not is_mark(grammar, mark) or mark[0] in attributes:
            raise NoTally("mark", number)
        attributes.append(mark[0])
        for name in mark[3]:
            ways[name].append(mark[1])
            if len(ways[name]) > MOST_BORNE or ways[name].count("down") > MOST_DOWNS:
                raise NoTally("mark", number)


def is_mark(grammar, thing):
    """Whether a thing, of any kind, is a mark by itself."""
    if not is_row_of(thing, 4) or not all([isinstance(part, str) for part in thing[:3]]):
        return False
    attribute, way, sort, names = thing
    return is_name(attribute) and way in WAYS and sort in SORTS and are_rules(grammar, names)


def are_rules(grammar, thing):
    """Whether a thing is a tuple of one rule or more, unlike."""
    if not isinstance(thing, tuple) or len(thing) == 0:
        return False
    if not all([isinstance(name, str) and grammar.is_rule(name) for name in thing]):
        return False
    return len(set(thing)) == len(thing)


def sums_by_due(grammar, borne, sums):
    """A dict of sums by what they are for; refuses the first that is not right or stands twice."""
    found = {}
    due = {one: True for one in borne.due()}
    for number, thing in enumerate(sums):
        if not is_sum(borne, due, thing) or thing[:3] in found:
            raise NoTally("sum", number)
        found[thing[:3]] = thing
    return found


def is_sum(borne, due, thing):
    """Whether a thing, of any kind, is a right sum."""
    if not is_row_of(thing, 4) or not is_whole(thing[1]):
        return False
    label, place, attribute, expression = thing
    if not isinstance(label, str) or not isinstance(attribute, str) or (label, place, attribute) not in due:
        return False
    return borne.reach(label).fits(expression, borne.sorts[attribute])


def tally_of(grammar, marks, sums):
    """The tally of a list of marks and a list of sums in any order."""
    need_marks(grammar, marks)
    borne = Borne(grammar, marks)
    return laid_out(marks, borne.due(), sums_by_due(grammar, borne, sums))


def completed(grammar, marks, sums):
    """The same, where the sums that lack are put in."""
    need_marks(grammar, marks)
    borne = Borne(grammar, marks)
    found = sums_by_due(grammar, borne, sums)
    due = borne.due()
    for label, place, attribute in due:
        made = borne.filled(label, place, attribute)
        if made is not None:
            found.setdefault((label, place, attribute), (label, place, attribute, made))
    return laid_out(marks, due, found)


def laid_out(marks, due, found):
    """The tally of marks and of sums by what they are for; refuses the first due one that has none."""
    for one in due:
        if one not in found:
            raise NoTally("lacks", one)
    return tuple(marks), tuple([found[one] for one in due])


def is_tally(grammar, thing):
    """Whether a thing, of any kind, is a tally."""
    if not is_row_of(thing, 2) or not isinstance(thing[0], tuple) or not isinstance(thing[1], tuple):
        return False
    try:
        made = tally_of(grammar, thing[0], thing[1])
    except NoTally:
        return False
    return [one[:3] for one in made[1]] == [one[:3] for one in thing[1]]


def parted_tally(grammar, tally):
    """A tally led to the grammar without bars."""
    parts = parted(grammar)
    plain = parts.plain()
    homes = {name: grammar.rule_of(parts.old_label(alternatives[0][0])) for name, alternatives in plain.rules()}
    marks = []
    for attribute, way, sort, names in tally[0]:
        led = tuple([name for name in homes if homes[name] in names])
        if led:
            marks.append((attribute, way, sort, led))
    found = {one[:3]: one[3] for one in tally[1]}
    sums = []
    for label, place, attribute in due_sums(plain, marks):
        sums.append((label, place, attribute, found[(parts.old_label(label), place, attribute)]))
    return tuple(marks), tuple(sums)
