"""Shapes and trees of a grammar: whether a thing is one, its nodes and parts, and trees put together."""

from tongueyard.errors import NoNode, NoTree
from tongueyard.patterns import Speller
from tongueyard.things import is_row_of, is_whole


class Walk:
    """The walk over a shape of a rule, label by label.

    heads: the labels taken, by their nodes; nodes: for each [above, place, first, behind, end];
    parts: for each node the list of its parts; row: the kinds of the words come to.
    """

    def __init__(self, grammar, name):
        self._grammar = grammar
        self._barred = {bar: True for bar in grammar.bars()}
        # What is due, the next one last: (symbol, node above, place), None standing for that node's end.
        self._due = [(name, None, 0)]
        self.heads = []
        self.nodes = []
        self.parts = []
        self.row = []

    def is_due(self):
        """Whether one more label is due."""
        return len(self._due) > 0

    def take(self, label):
        """Takes the next label; False where it may not stand here, and nothing is taken."""
        if not self.is_due() or not self._grammar.is_label(label):
            return False
        name, above, place = self._due[-1]
        if self._grammar.rule_of(label) != name or self.is_barred(above, place, label):
            return False
        self._due.pop()
        number = len(self.heads)
        if above is not None:
            self.parts[above].append(("node", number))
        self.heads.append(label)
        self.nodes.append([above, place, len(self.row), None, None])
        self.parts.append([])
        row = self._grammar.row_of(label)
        self._due.append((None, number, 0))
        for at in range(len(row), 0, -1):
            self._due.append((row[at - 1], number, at))
        self.settle()
        return True

    def is_barred(self, above, place, label):
        """Whether a bar keeps a label from a place of a node."""
        return above is not None and (self.heads[above], place, label) in self._barred

    def settle(self):
        """Takes the words that are due, and the ends of nodes, up to the next rule that is due."""
        while self._due and not self._grammar.is_rule(self._due[-1][0]):
            symbol, above, _ = self._due.pop()
            if symbol is None:
                self.nodes[above][3] = len(self.row)
                self.nodes[above][4] = len(self.heads)
            else:
                self.parts[above].append(("word", len(self.row)))
                self.row.append(symbol)


def walk_over(grammar, shape, name):
    """The walk over a shape, and the number of the label at which it goes wrong, or None."""
    walk = Walk(grammar, grammar.begin() if name is None else name)
    for label in shape:
        if not walk.take(label):
            return walk, len(walk.heads)
    return walk, len(shape) if walk.is_due() else None


def need_walk(grammar, shape, name):
    """The walk over a shape; refuses what is none."""
    walk, wrong = walk_over(grammar, shape, name)
    if wrong is not None:
        raise NoTree(wrong)
    return walk


def is_shape(grammar, shape, row, *, name=None):
    """Whether a shape is one of a rule for a row of kinds."""
    walk, wrong = walk_over(grammar, shape, name)
    return wrong is None and walk.row == list(row)


def spelled_by(grammar, shape, *, name=None):
    """The row of kinds of a shape."""
    return need_walk(grammar, shape, name).row


def nodes_of(grammar, shape, *, name=None):
    """For each node of a shape (above, place, first word, behind its words, behind its nodes)."""
    return [tuple(node) for node in need_walk(grammar, shape, name).nodes]


def parts_of(grammar, shape, *, name=None):
    """For each node of a shape the list of its parts, ("node", number) or ("word", number)."""
    return need_walk(grammar, shape, name).parts


def is_tree(grammar, thing, *, name=None):
    """Whether a thing, of any kind, is a tree of a rule."""
    try:
        need_tree_walk(grammar, thing, name)
    except NoTree:
        return False
    return True


def need_tree(grammar, thing, *, name=None):
    """Refuses a thing, of any kind, that is no tree of a rule."""
    need_tree_walk(grammar, thing, name)


def need_tree_walk(grammar, thing, name):
    """The walk over a tree's shape; refuses what is no tree."""
    if not has_shape(thing):
        raise NoTree(None)
    walk = need_walk(grammar, thing[0], name)
    if not are_words(grammar, thing[1], walk.row):
        raise NoTree(None)
    return walk


def has_shape(thing):
    """Whether a thing is a tuple of a tuple and something."""
    return is_row_of(thing, 2) and isinstance(thing[0], tuple)


def are_words(grammar, thing, row):
    """Whether a thing is the tuple of words of a row of kinds, each spelled by its kind's pattern."""
    if not is_row_of(thing, len(row)):
        return False
    spellers = {name: Speller(pattern) for name, pattern, _ in grammar.kinds() if name in row}
    known = {}
    for word, kind in zip(thing, row):
        if not is_row_of(word, 2) or word[0] != kind or not isinstance(word[1], str):
            return False
        asked = (kind, word[1])
        if asked not in known:
            known[asked] = spellers[kind].takes(word[1])
        if not known[asked]:
            return False
    return True


def need_whole_tree(grammar, thing):
    """The walk over a tree of the rule of its first label; refuses what is none."""
    name = None
    if has_shape(thing) and len(thing[0]) > 0 and grammar.is_label(thing[0][0]):
        name = grammar.rule_of(thing[0][0])
    return need_tree_walk(grammar, thing, name)


def need_node(walk, thing):
    """Refuses a thing, of any kind, that is no node's number."""
    if not is_whole(thing) or not 0 <= thing < len(walk.nodes):
        raise NoNode(thing)


def part_at(grammar, tree, node):
    """The tree that a node of a tree is."""
    walk = need_whole_tree(grammar, tree)
    need_node(walk, node)
    _, _, first, behind, end = walk.nodes[node]
    return tree[0][node:end], tree[1][first:behind]


def put_at(grammar, tree, node, other):
    """A tree with another one in the place of one of its nodes."""
    walk = need_whole_tree(grammar, tree)
    need_node(walk, node)
    need_tree(grammar, other, name=grammar.rule_of(walk.heads[node]))
    above, place, first, behind, end = walk.nodes[node]
    if walk.is_barred(above, place, other[0][0]):
        raise NoTree(node)
    shape, words = tree
    return shape[:node] + other[0] + shape[end:], words[:first] + other[1] + words[behind:]


def numbered(grammar, tree):
    """A tree as (0, nodes), nodes a dict from numbers to (label, parts)."""
    walk = need_whole_tree(grammar, tree)
    nodes = {}
    for number, parts in enumerate(walk.parts):
        told = tuple([part if sort == "node" else tree[1][part] for sort, part in parts])
        nodes[number] = (walk.heads[number], told)
    return 0, nodes


def flat(top, nodes):
    """The tree of a dict from numbers, whatever ones, to (label, parts)."""
    shape = []
    words = []
    due = [top]
    while due:
        part = due.pop()
        if isinstance(part, tuple):
            words.append(part)
        else:
            label, parts = nodes[part]
            shape.append(label)
            due.extend(parts[::-1])
    return tuple(shape), tuple(words)
