"""Grammars: kinds of words, rules, the rule with which one begins, and bars."""

from tongueyard.errors import NoGrammar, NoLabel, NoName
from tongueyard.names import is_name
from tongueyard.patterns import spells_none
from tongueyard.places import how_many_signs

END = "."
MOST_KINDS = 14
MOST_SIGNS = 40
MOST_RULES = 40
MOST_ALTERNATIVES = 100
MOST_BARS = 30
MOST_SYMBOLS = 6


class Grammar:
    def __init__(self, kinds, rules, *, begin=None, bars=()):
        need_few(kinds, rules, bars)
        need_kinds(kinds)
        need_rules(kinds, rules)
        need_symbols(kinds, rules)
        self._kinds = tuple(kinds)
        self._rules = tuple([(name, tuple(alternatives)) for name, alternatives in rules])
        self._begin = rules[0][0] if begin is None else begin
        self._bars = tuple(bars)
        self._kind_names = {name: True for name, _, _ in kinds}
        self._labels = {}
        self._homes = {}
        self._rows = {}
        for name, alternatives in rules:
            self._labels[name] = [label for label, _ in alternatives]
            for label, row in alternatives:
                self._homes[label] = name
                self._rows[label] = tuple(row)
        if self._begin not in self._labels:
            raise NoGrammar("begin", begin)
        need_bars(bars, self._rows, self._labels)

    def kinds(self):
        return list(self._kinds)

    def rules(self):
        return [(name, list(alternatives)) for name, alternatives in self._rules]

    def begin(self):
        return self._begin

    def bars(self):
        return self._bars

    def labels(self):
        return list(self._rows)

    def labels_of(self, name):
        if name not in self._labels:
            raise NoName(name)
        return list(self._labels[name])

    def row_of(self, label):
        if label not in self._rows:
            raise NoLabel(label)
        return self._rows[label]

    def rule_of(self, label):
        if label not in self._homes:
            raise NoLabel(label)
        return self._homes[label]

    def is_kind(self, name):
        return name in self._kind_names

    def is_rule(self, name):
        return name in self._labels

    def is_label(self, thing):
        """Whether a thing, of any kind, is a label."""
        return isinstance(thing, str) and thing in self._rows

    def __eq__(self, other):
        return (isinstance(other, Grammar) and self._kinds == other._kinds and self._rules == other._rules
                and self._begin == other._begin and self._bars == other._bars)

    def __len__(self):
        return len(self._rows)

    def __repr__(self):
        return f"Grammar({self._begin!r}, {len(self._rows)})"


def need_few(kinds, rules, bars):
    """Refuses what lacks kinds or rules, or has too many of something."""
    if not 1 <= len(kinds) <= MOST_KINDS or not 1 <= len(rules) <= MOST_RULES or len(bars) > MOST_BARS:
        raise NoGrammar("many", None)
    signs = sum([how_many_signs(pattern) for _, pattern, _ in kinds])
    alternatives = sum([len(alternatives) for _, alternatives in rules])
    if signs > MOST_SIGNS or alternatives > MOST_ALTERNATIVES:
        raise NoGrammar("many", None)


def need_new_name(name, taken):
    if not is_name(name):
        raise NoGrammar("name", name)
    if name in taken:
        raise NoGrammar("twice", name)


def need_kinds(kinds):
    """Refuses the first kind that is not right."""
    taken = []
    for name, pattern, _ in kinds:
        need_new_name(name, taken)
        if spells_none(pattern):
            raise NoGrammar("empty", name)
        taken.append(name)


def need_rules(kinds, rules):
    """Refuses the first rule that is not right, but for the symbols."""
    taken = [name for name, _, _ in kinds]
    labels = []
    for name, alternatives in rules:
        need_new_name(name, taken)
        taken.append(name)
        if len(alternatives) == 0:
            raise NoGrammar("bare", name)
        for label, row in alternatives:
            if not is_name(label):
                raise NoGrammar("label", label)
            if label in labels:
                raise NoGrammar("again", label)
            if len(row) > MOST_SYMBOLS:
                raise NoGrammar("long", label)
            labels.append(label)


def need_symbols(kinds, rules):
    """Refuses the first symbol that is neither a kind that is not skipped nor a rule."""
    skipped = [name for name, _, skip in kinds if skip]
    known = [name for name, _, _ in kinds] + [name for name, _ in rules]
    for _, alternatives in rules:
        for _, row in alternatives:
            for symbol in row:
                if symbol not in known:
                    raise NoGrammar("symbol", symbol)
                if symbol in skipped:
                    raise NoGrammar("skipped", symbol)


def need_bars(bars, rows, labels):
    """Refuses the first bar that is not right; rows by labels, labels by rules."""
    ahead = []
    for bar in bars:
        above, place, below = bar
        row = rows.get(above, ())
        if not 1 <= place <= len(row) or below not in labels.get(row[place - 1], []) or bar in ahead:
            raise NoGrammar("bar", above)
        ahead.append(bar)
