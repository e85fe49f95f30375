"""Slow and plain answers about rows of kinds: facts by trying all steps again and again, shapes one by one."""

from itertools import product

from tests.brute_grammars import grammar_of, labels_by_rule, rows_of
from tongueyard.grammars import END, Grammar

KINDS = ["x", "y"]

READ = {
    "amb": grammar_of("a: p a x a | q y | r"),
    "ring": grammar_of("a: p b | q x\n b: r e a e | s y\n e: t | u x"),
    "hidden": grammar_of("a: p b x | q a y\n b: r c | s\n c: t b b | u x"),
    "apart": grammar_of("a: p x b | q y c\n b: r b | s x\n c: t c c | u | v y"),
    "unclean": grammar_of("a: p x d | q x a | r | s d\n d: t d y | u y d"),
    "none": grammar_of("a: p a x | q x a"),
    "outer": grammar_of("a: p x\n b: q b | r x a", begin="b"),
    "right": grammar_of("a: p x a | q x"),
    "left": grammar_of("a: p a x | q x"),
    "round": grammar_of("a: p x a x | q y a y | r x | s y | t"),
    "off": grammar_of("a: p a | q x\n b: r c x\n c: s y | t b", begin="b"),
    "void": grammar_of("b: r b b | s | t c\n c: u c | v y | w b"),
}


def barren_rules(grammar):
    left = dict(grammar.rules())
    gone = True
    while gone:
        gone = [name for name in left if any(all(part not in left for part in row) for _, row in left[name])]
        for name in gone:
            del left[name]
    return list(left)


def clean_labels(grammar):
    """By rules the lists of their clean labels."""
    barren = barren_rules(grammar)
    return {name: [label for label, row in alternatives if not any(part in barren for part in row)]
            for name, alternatives in grammar.rules()}


def all_rows(most, kinds=KINDS):
    return [row for many in range(most + 1) for row in product(kinds, repeat=many)]


def slow_chart(grammar, row):
    """All facts of a row, by doing each step for each fact again until nothing comes any more."""
    rows, labels, clean = rows_of(grammar), labels_by_rule(grammar), clean_labels(grammar)
    homes = {label: name for name in labels for label in labels[name]}
    found = {(label, 0, 0, 0) for label in clean[grammar.begin()]}
    many = -1
    while len(found) > many:
        many = len(found)
        for label, dot, first, behind in list(found):
            if dot == len(rows[label]):
                continue
            symbol = rows[label][dot]
            if symbol not in labels:
                if behind < len(row) and row[behind] == symbol:
                    found.add((label, dot + 1, first, behind + 1))
                continue
            found.update((other, 0, behind, behind) for other in clean[symbol])
            found.update((label, dot + 1, first, last) for other, done, start, last in list(found)
                         if homes[other] == symbol and done == len(rows[other]) and start == behind)
    return found


def rows_by_name(grammar, most):
    """By names the set of all rows of at most so many kinds to which they come."""
    rows, labels = rows_of(grammar), labels_by_rule(grammar)
    found = {name: set() for name in labels}
    many = -1
    while sum(len(one) for one in found.values()) > many:
        many = sum(len(one) for one in found.values())
        for name in labels:
            for label in labels[name]:
                heads = {()}
                for symbol in rows[label]:
                    parts = found.get(symbol, {(symbol,)})
                    heads = {head + part for head in heads for part in parts if len(head) + len(part) <= most}
                found[name] |= heads
    return found


class SlowShapes:
    """All nodes (name, first, behind) that stand in shapes of a row, and these shapes."""

    def __init__(self, grammar, row, language=None):
        self.rows, self.labels, self.row = rows_of(grammar), labels_by_rule(grammar), tuple(row)
        self.language = rows_by_name(grammar, len(row)) if language is None else language
        self.top = (grammar.begin(), 0, len(row))
        self.beneath = {}
        if self.comes_to(*self.top):
            self.meet(self.top)

    def comes_to(self, symbol, first, behind):
        part = self.row[first:behind]
        return part in self.language[symbol] if symbol in self.language else part == (symbol,)

    def splits(self, symbols, first, behind):
        """All ways to part the kinds among symbols, as lists of (symbol, first, behind)."""
        if not symbols:
            return [[]] if first == behind else []
        return [[(symbols[0], first, middle)] + rest for middle in range(first, behind + 1)
                if self.comes_to(symbols[0], first, middle) for rest in self.splits(symbols[1:], middle, behind)]

    def ways(self, node):
        name, first, behind = node
        return [(label, split) for label in self.labels[name] for split in self.splits(self.rows[label], first, behind)]

    def meet(self, top):
        due = [top]
        while due:
            node = due.pop()
            if node not in self.beneath:
                self.beneath[node] = [part for _, split in self.ways(node) for part in split if part[0] in self.labels]
                due += self.beneath[node]

    def ringed(self):
        """All names that stand beneath themselves over the same kinds in some shape."""
        return {node[0] for node in self.beneath if self.is_ringed(node)}

    def is_ringed(self, node):
        met = []
        due = [node]
        while due:
            for part in self.beneath[due.pop()]:
                if part[1:] == node[1:] and part not in met:
                    met.append(part)
                    due.append(part)
        return node in met

    def shapes(self, node):
        return [(label,) + shape for label, split in self.ways(node) for shape in self.put_together(split)]

    def put_together(self, split):
        found = [()]
        for part in split:
            inner = self.shapes(part) if part[0] in self.labels else [()]
            found = [shape + one for shape in found for one in inner]
        return found


def slow_shapes(grammar, row, language=None):
    """All shapes of a row in the order of their labels' numbers, None where they are endless."""
    numbers = {label: number for number, label in enumerate(rows_of(grammar))}
    slow = SlowShapes(grammar, row, language)
    if slow.ringed():
        return None
    return sorted(slow.shapes(slow.top) if slow.beneath else [], key=lambda shape: [numbers[label] for label in shape])


def turned(grammar):
    """The grammar with each row turned round."""
    rules = [(name, [(label, row[::-1]) for label, row in alternatives]) for name, alternatives in grammar.rules()]
    return Grammar(grammar.kinds(), rules, begin=grammar.begin())


def renamed(grammar, names):
    """The grammar with names, kinds and labels called by a dict, in their order."""
    kinds = [(names.get(name, name), pattern, skipped) for name, pattern, skipped in grammar.kinds()]
    rules = [(names.get(name, name), [(names.get(label, label), tuple(names.get(symbol, symbol) for symbol in row))
                                      for label, row in alternatives]) for name, alternatives in grammar.rules()]
    return Grammar(kinds, rules, begin=names.get(grammar.begin(), grammar.begin()))


def texts_up_to(grammar, most):
    """All rows of at most so many kinds that are texts, fewer kinds first, then by the kinds' numbers."""
    numbers = {name: number for number, (name, _, _) in enumerate(grammar.kinds())}
    return sorted(rows_by_name(grammar, most)[grammar.begin()],
                  key=lambda row: (len(row), [numbers[kind] for kind in row]))


def begun_by(grammar, texts, row):
    """What may stand behind a row so that one of some texts begins so."""
    ahead = [text for text in texts if text[:len(row)] == tuple(row)]
    return sorted({text[len(row)] if len(text) > len(row) else END for text in ahead})
