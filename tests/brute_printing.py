"""Slow and plain answers about prints: trees walked by recursion, gaps asked one by one."""

from tests.brute_grammars import rows_of
from tongueyard.gaps import gap_holds

ROW, BLANK, NEAR = "row", "blank", "near"


class PlainPrint:
    """The words of a tree with the marks between them, and the gaps that come of these."""

    def __init__(self, grammar, marks, tree, width=None):
        self.kinds, self.rows, self.width = grammar.kinds(), rows_of(grammar), width
        self.marks = {label: marks.get(label, ("near",) * (len(row) - 1)) for label, row in self.rows.items()}
        self.names = [name for name, _, _ in self.kinds]
        self.left, self.words = list(tree[0]), [text for _, text in tree[1]]
        self.stream, self.within, self.nodes = [], {}, 0
        self.walk([])
        self.places = [at for at, one in enumerate(self.stream) if one[0] == "word"]

    def walk(self, around):
        node = self.nodes
        self.nodes += 1
        self.within[node] = []
        label = self.left.pop(0)
        for at, symbol in enumerate(self.rows[label]):
            if at > 0:
                self.stream.append(("mark", self.marks[label][at - 1], node))
            if symbol in self.names:
                number = sum(one[0] == "word" for one in self.stream)
                for one in around + [node]:
                    self.within[one].append(number)
                self.stream.append(("word", number, node))
            else:
                self.walk(around + [node])

    def depth(self, number):
        ahead = [one[1] for one in self.stream[:self.places[number]]]
        return ahead.count("in") - ahead.count("out")

    def wish(self, number, is_flat):
        """What is wished ahead of a word."""
        between = self.stream[self.places[number - 1] + 1:self.places[number]]
        if any(mark in ("row", "in", "out") or (mark == "soft" and not is_flat(node)) for _, mark, node in between):
            return ROW
        return BLANK if any(mark in ("blank", "soft") for _, mark, _ in between) else NEAR

    def gap(self, number, wish):
        gaps = ["", " ", "\n" + "  " * self.depth(number)]
        for gap in gaps[[NEAR, BLANK, ROW].index(wish):]:
            if gap_holds(self.kinds, self.words[number - 1], gap, self.words[number]):
                return gap
        return None

    def is_flat(self, node):
        numbers = self.within[node]
        told = self.words[numbers[0]] if numbers else ""
        for number in numbers[1:]:
            wish = self.wish(number, lambda one: True)
            gap = self.gap(number, wish)
            if wish == ROW or gap is None or "\n" in gap:
                return False
            told += gap + self.words[number]
        return self.width is None or len(told) <= self.width

    def told(self):
        """(text, spans), or the number of the first word behind which no gap holds."""
        flat = {node: self.is_flat(node) for node in range(self.nodes)}
        text, spans = "", []
        for number, word in enumerate(self.words):
            if number > 0:
                gap = self.gap(number, self.wish(number, flat.get))
                if gap is None:
                    return number - 1
                text += gap
            spans.append((len(text), len(text) + len(word)))
            text += word
        return text, spans


def some_marks(grammar, chance):
    """Marks by chance, right ones."""
    found = {}
    for label, row in rows_of(grammar).items():
        if chance.random() < 0.2:
            continue
        marks, depth = [], 0
        for left in range(len(row) - 1, 0, -1):
            possible = ["near", "blank", "row", "soft", "soft", "soft"]
            possible += ["out"] * 2 if depth else []
            possible += ["in"] if depth + 1 < left else []
            mark = "out" if depth == left else chance.choice(possible)
            depth += (mark == "in") - (mark == "out")
            marks.append(mark)
        if depth == 0:
            found[label] = tuple(marks)
    return found
