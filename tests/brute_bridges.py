"""Slow and plain answers about steps: trees led by recursion, and right steps by chance."""

from random import Random

from tests.brute import more, signs, word
from tests.brute_grammars import grammar_of, is_barred, labels_by_rule, nested, rows_of
from tongueyard.bridges import Step
from tongueyard.patterns import least_spelled, spells

KINDS = [("x", signs("x"), False), ("y", more(signs("xy")), False), ("gap", signs(" "), True)]
NEW_KINDS = [("k", more(signs("xyz")), False), ("l", word("end"), False), ("y", signs("x"), False),
             ("gap", signs("_"), True)]
PAIRS = [
    (grammar_of("a: p b x a | q x | r\n b: s y a\n c: t x | u", kinds=KINDS),
     grammar_of("d: k y d k | l y l | m e | n d d\n e: o k | p\n f: q e d", kinds=NEW_KINDS),
     {"a": "d", "x": "y", "y": "k", "b": "f"}),
    (grammar_of("a: p a b | q\n b: r x c | s c\n c: t y | u", kinds=KINDS),
     grammar_of("a: p b a | q | v a c\n b: r c x\n c: t y | u | w c", kinds=KINDS),
     {name: name for name in ("a", "b", "c", "x", "y")}),
    (grammar_of("a: p x b | q y\n b: r a a | s\n c: t b", begin="a", kinds=KINDS),
     grammar_of("a: l x b | m y | n a b\n b: o a\n c: h x", kinds=KINDS, bars=(("l", 2, "o"),)),
     {"a": "a", "b": "b", "x": "x", "y": "y", "c": "c"}),
    (grammar_of("a: p b c | q x\n b: r x y\n c: s b", kinds=KINDS),
     grammar_of("a: k x y b | l b c b\n b: m x y\n c: n b | o", kinds=KINDS), {"a": "a", "b": "b", "c": "c", "x": "x"}),
    (grammar_of("a: p y a | q x y | r b\n b: s y x", kinds=KINDS),
     grammar_of("a: p a y | q y x b | r b | t y y x\n b: s x y | u y x",
                kinds=[KINDS[0], ("y", more(signs("y")), False)]),
     {"a": "a", "b": "b", "x": "x", "y": "y"}),
]
TEXTS = {"x": ["x"], "y": ["y", "x", "xyx"], "num": ["1", "22"], "plus": ["+"]}


def some_words(grammar, shape, chance, name=None):
    def walk(tree):
        return [kind for part in tree[1] for kind in ([part] if isinstance(part, str) else walk(part))]
    texts = {kind: [text for text in TEXTS.get(kind, ["x"]) if spells(pattern, text)] or [least_spelled(pattern)]
             for kind, pattern, _ in grammar.kinds()}
    return tuple((kind, chance.choice(texts[kind])) for kind in walk(nested(grammar, shape, name)[0]))


class PlainNode:
    def __init__(self, label):
        self.label, self.parts, self.number, self.order = label, [], None, None


class PlainTree:
    """A tree of nodes; a word is (number, order, kind, text)."""

    def __init__(self, grammar, tree):
        self.rows, self.nodes, self.words = rows_of(grammar), [], []
        self.left, self.texts, self.order = list(tree[0]), list(tree[1]), 0
        self.top = self.walk(grammar)

    def walk(self, grammar):
        node = PlainNode(self.left.pop(0))
        node.number, node.order = len(self.nodes), self.order
        self.order += 1
        self.nodes.append(node)
        for symbol in self.rows[node.label]:
            if grammar.is_kind(symbol):
                kind, text = self.texts.pop(0)
                node.parts.append((len(self.words), self.order, kind, text))
                self.words.append(node.parts[-1])
                self.order += 1
            else:
                node.parts.append(self.walk(grammar))
        return node


def taken(node, piece):
    part = node.parts[piece[1] - 1]
    return part.parts[piece[3] - 1] if piece[0] == "within" else part


def plain_led(step, tree):
    """(tree, nodes, words) as keep tells them, or (number, why)."""
    old, new, names, templates = step.old(), step.new(), step.names(), step.templates()
    if names.get(old.begin()) != new.begin():
        return 0, "begin"
    patterns = {name: pattern for name, pattern, _ in new.kinds()}
    bad = []

    def look(part):
        if isinstance(part, tuple):
            if part[2] not in names or not spells(patterns[names[part[2]]], part[3]):
                bad.append((part[1], part[0], "word"))
        elif part.label not in templates:
            bad.append((part.order, part.number, "label"))
        else:
            for piece in templates[part.label]:
                if piece[0] in ("part", "within"):
                    look(taken(part, piece))

    whole = PlainTree(old, tree)
    look(whole.top)
    if bad:
        return min(bad)[1:]
    shape, words, nodes, texts = [], [], {}, {}

    def put(part):
        if isinstance(part, tuple):
            texts[len(words)] = part[0]
            words.append((names[part[2]], part[3]))
            return
        nodes[len(shape)] = part.number
        for piece in templates[part.label]:
            if piece[0] == "node":
                shape.append(piece[1])
            elif piece[0] == "word":
                words.append(piece[1:])
            else:
                put(taken(part, piece))

    put(whole.top)
    if is_barred(new, nested(new, tuple(shape))[0]):
        return 0, "bar"
    return (tuple(shape), tuple(words)), nodes, texts


def some_template(step_of, label, chance):
    """A right template for a label, by chance, or None."""
    old, new, names = step_of
    rows, labels = rows_of(old), labels_by_rule(old)
    new_rows, new_labels = rows_of(new), labels_by_rule(new)
    patterns = {name: pattern for name, pattern, _ in new.kinds()}
    takes = [("part", at) for at in range(1, len(rows[label]) + 1)]
    for at, symbol in enumerate(rows[label], 1):
        if len(labels.get(symbol, [])) == 1:
            takes += [("within", at, labels[symbol][0], inner) for inner in range(1, len(rows[labels[symbol][0]]) + 1)]

    def symbol_of(piece):
        return rows[label][piece[1] - 1] if piece[0] == "part" else rows[piece[2]][piece[3] - 1]

    def fill(symbol, depth):
        possible = [(piece,) for piece in takes if names.get(symbol_of(piece)) == symbol] * 3
        if symbol in patterns:
            possible += [(("word", symbol, text),) for text in ("x", "y", "end", "xzy", "_") if spells(patterns[symbol],
                text)]
        elif depth:
            made = [node(one, depth - 1) for one in new_labels[symbol]]
            possible += [one for one in made if one is not None]
        return chance.choice(possible) if possible else None

    def node(one, depth):
        pieces = (("node", one),)
        for symbol in new_rows[one]:
            inner = fill(symbol, depth)
            if inner is None:
                return None
            pieces += inner
        return pieces

    name = names.get({one: rule for rule, ones in labels.items() for one in ones}[label])
    if name not in new_labels:
        return None
    made = [node(one, 2) for one in new_labels[name]]
    made = [one for one in made if one is not None]
    return chance.choice(made) if made else None


def some_steps(seed, many, whole=False):
    """Right steps, by chance; whole ones have all names, and all templates that are found."""
    chance = Random(seed)
    for number in range(many):
        old, new, names = PAIRS[number % len(PAIRS)]
        names = {name: names[name] for name in names if whole or chance.random() < 0.93}
        templates = {}
        for label in old.labels():
            pieces = some_template((old, new, names), label, chance)
            if pieces is not None and (whole or chance.random() < 0.9):
                templates[label] = pieces
        yield Step(old, new, names, templates)
