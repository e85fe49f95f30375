"""Trees printed as texts that are cut to their words again."""

from tongueyard.cutting import is_good
from tongueyard.errors import NoPrint, NotGood
from tongueyard.gaps import break_by_table
from tongueyard.layouts import Layout
from tongueyard.trees import need_tree_walk
from tongueyard.wordtables import word_table

ROW_MARKS = ("row", "in", "out")
STEP = "  "
# What may be wished between two words, the lesser ones first.
NEAR = 0
BLANK = 1
ROW = 2


def printed(layout, tree, *, width=None):
    """The text of a tree by a layout."""
    return printed_spans(layout, tree, width=width)[0]


def packed(grammar, tree):
    """The words of a tree with the least gaps that hold, whatever comes behind."""
    return printed(Layout(grammar, {}), tree)


def printed_spans(layout, tree, *, width=None):
    """The printed text, and the list of (from, behind) of its words."""
    walk = need_tree_walk(layout.grammar, tree, None)
    texts = [text for _, text in tree[1]]
    gaps = Gaps(layout.grammar)
    gaps.need_good(tree[1])
    wishes = Wishes(layout, walk)
    flat_nodes = wishes.flat_nodes(texts, gaps, width)
    told = texts[:1]
    spans = [(0, len(text)) for text in told]
    for number in range(1, len(texts)):
        gap = gaps.first_gap(texts[number - 1], texts[number], wishes.wished(number, flat_nodes), wishes.depths[number])
        if gap is None:
            raise NoPrint(number - 1)
        told.extend([gap, texts[number]])
        start = spans[-1][1] + len(gap)
        spans.append((start, start + len(texts[number])))
    return "".join(told), spans


class Gaps:
    """The gaps that hold between words of a grammar's kinds."""

    def __init__(self, grammar):
        self._table = word_table(grammar.kinds())
        self._skipped = [name for name, _, skip in grammar.kinds() if skip]
        self._known = {}

    def need_good(self, words):
        """Refuses the first word that is not good."""
        for number, (kind, text) in enumerate(words):
            if not is_good(self._table, kind, text):
                raise NotGood(number)

    def holds(self, one, gap, other):
        asked = (one, gap, other)
        if asked not in self._known:
            self._known[asked] = break_by_table(self._table, self._skipped, one, gap, other) is None
        return self._known[asked]

    def first_gap(self, one, other, wish, depth):
        """The first gap that holds, from the wished one on, or None."""
        possible = ["", " ", "\n" + STEP * depth]
        for gap in possible[wish:]:
            if self.holds(one, gap, other):
                return gap
        return None


class Wishes:
    """The marks that lie ahead of each word of a tree, behind the word ahead of it.

    marks: for each word the list of (mark, node); depths: for each word its depth.
    """

    def __init__(self, layout, walk):
        self._nodes = walk.nodes
        self.marks = []
        self.depths = []
        here = []
        depth = 0
        due = [("node", 0)]
        while due:
            sort, told = due.pop()
            if sort == "node":
                due.extend(within(walk.parts[told], layout.marks_of(walk.heads[told]), told)[::-1])
            elif sort == "word":
                self.marks.append(here)
                self.depths.append(depth)
                here = []
            else:
                here.append(told)
                depth = depth + (1 if told[0] == "in" else 0) - (1 if told[0] == "out" else 0)

    def wished(self, number, flat_nodes):
        """What is wished ahead of a word, some nodes being flat."""
        found = NEAR
        for mark, node in self.marks[number]:
            if mark in ROW_MARKS or (mark == "soft" and node not in flat_nodes):
                return ROW
            if mark in ("blank", "soft"):
                found = BLANK
        return found

    def flat_nodes(self, texts, gaps, width):
        """A dict of the nodes that are flat."""
        every = {node: True for node in range(len(self._nodes))}
        # Counted up to each word: how many gaps can't be flat, and how many signs there are with the others.
        broken = [0]
        signs = [0]
        for number, text in enumerate(texts):
            gap = "" if number == 0 else self.flat_gap(number, texts, gaps, every)
            broken.append(broken[-1] + (1 if gap is None else 0))
            signs.append(signs[-1] + len(text) + (0 if gap is None else len(gap)))
        found = {}
        for node, (_, _, first, behind, _) in enumerate(self._nodes):
            ahead = 0 if first == behind else signs[first + 1] - len(texts[first])
            is_whole = first == behind or broken[behind] == broken[first + 1]
            many = 0 if first == behind else signs[behind] - ahead
            if is_whole and (width is None or many <= width):
                found[node] = True
        return found

    def flat_gap(self, number, texts, gaps, every):
        """The gap ahead of a word where each soft is a blank; None where it is a row, or none holds."""
        wish = self.wished(number, every)
        gap = gaps.first_gap(texts[number - 1], texts[number], wish, self.depths[number])
        return gap if gap in ("", " ") else None


def within(parts, marks, node):
    """What comes in a node: its parts, each two with the mark between them."""
    found = []
    for at, part in enumerate(parts):
        if at > 0:
            found.append(("mark", (marks[at - 1], node)))
        found.append(part)
    return found
