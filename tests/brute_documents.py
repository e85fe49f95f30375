"""Slow and plain answers about documents: all told anew from the words of the points, for each text."""

from tests.brute import more, signs
from tests.brute_grammars import grammar_of, is_barred, nested, rows_of
from tests.brute_reading import slow_shapes
from tongueyard.bars import parted
from tongueyard.charts import Chart
from tongueyard.cutting import pieces_of
from tongueyard.grammars import Grammar
from tongueyard.reading import nth_shape
from tongueyard.wordtables import word_table

KINDS = [("x", signs("x"), False), ("y", more(signs("y")), False), ("gap", more(signs("\n ")), True)]

READ = {
    "sums": Grammar([("num", more(signs("0123456789")), False), ("plus", signs("+"), False),
                     ("gap", more(signs(" ")), True)],
                    [("sum", [("one", ("term",)), ("both", ("sum", "plus", "term"))]),
                     ("term", [("leaf", ("num",)), ("none", ())])]),
    "lists": grammar_of("a: p b a | q\n b: s y e c\n c: t | u x c\n e: v f\n f: w", kinds=KINDS),
    "two": grammar_of("a: p a x a | q y | r", kinds=KINDS),
    "barred": grammar_of("a: p a x a | q b a | r y\n b: s x | t a", bars=(("p", 3, "p"), ("q", 2, "p"), ("q", 2, "q")),
                         kinds=KINDS),
    "bars": grammar_of("a: p a x a | r y | s", bars=(("p", 3, "p"), ("p", 1, "s")), kinds=KINDS),
    "barren": grammar_of("a: p a x | q x a", kinds=KINDS),
    "even": grammar_of("a: p x a x | q y a y | r", kinds=KINDS),
    "skip": grammar_of("a: p x | q x a", kinds=[("x", more(signs("xy")), False), ("y", signs("y"), False),
                                                ("gap", signs(" "), True)]),
}


def plain_words(grammar, text):
    """The list of (kind, text, place, look)."""
    found, at = [], 0
    for kind, word, look in pieces_of(word_table(grammar.kinds()), text):
        found.append((kind, word, at, look))
        at += len(word)
    return found


def plain_row(grammar, words):
    skipped = [name for name, _, skip in grammar.kinds() if skip]
    return [at for at, word in enumerate(words) if word[0] not in skipped]


def plain_shapes(grammar, row):
    """The least shape of a row and how many there are, of short ones by trying all; None and 0 where there are none."""
    if not all(grammar.is_kind(kind) for kind in row):
        return None, 0
    asked = (repr(grammar.rules()), grammar.begin(), grammar.bars(), tuple(row))
    if asked not in KNOWN:
        KNOWN[asked] = slow_ones(grammar, row) if len(row) <= 5 else told_ones(grammar, row)
    return KNOWN[asked]


KNOWN = {}


def slow_ones(grammar, row):
    bare = Grammar(grammar.kinds(), grammar.rules(), begin=grammar.begin())
    found = slow_shapes(bare, row)
    if found is None:
        # Without the bars there would be shapes without end.
        return told_ones(grammar, row)
    shapes = [shape for shape in found if not is_barred(grammar, nested(grammar, shape)[0])]
    return (shapes[0], len(shapes)) if shapes else (None, 0)


def told_ones(grammar, row):
    parts = parted(grammar)
    many = Chart(parts.plain(), row).how_many()
    return (parts.led_out(nth_shape(parts.plain(), row, 0)), many) if many else (None, 0)


def plain_stop(grammar, row):
    """(place, what may stand there)."""
    chart = Chart(parted(grammar).plain(), row)
    return chart.bad(), chart.next_kinds(chart.bad())


class PlainNode:
    def __init__(self, label, home, place):
        self.label, self.home, self.place = label, home, place
        self.parts, self.words, self.number = [], (), None


def plain_nodes(grammar, shape, numbers):
    """All nodes of a tree whose words have these numbers, in the order of the shape."""
    found, left, rows = [], list(numbers), rows_of(grammar)
    labels = list(shape)

    def walk(home, place):
        node = PlainNode(labels.pop(0), home, place)
        found.append(node)
        for at, symbol in enumerate(rows[node.label], 1):
            if grammar.is_kind(symbol):
                node.parts.append(left.pop(0))
            else:
                node.parts.append(walk(node, at))
        node.words = sum([part.words if isinstance(part, PlainNode) else (part,) for part in node.parts], ())
        return node

    walk(None, 0)
    return found


def told_nodes(nodes, words):
    """The numbered tree; words: by numbers (kind, text)."""
    return nodes[0].number, {node.number: (node.label, tuple(part.number if isinstance(part,
        PlainNode) else words[part] for part in node.parts))
                             for node in nodes}


class PlainDocument:
    def __init__(self, grammar, text, next_word=1, next_node=1):
        self.grammar, self.next_word, self.next_node = grammar, next_word, next_node
        self.words, self.last, self.text = [], [], ""
        self.put([(None,) + word for word in plain_words(grammar, text)], text)

    def put(self, words, text):
        """Puts words (number or None, kind, text, place, look); new ones, and new nodes, get numbers."""
        self.text, self.words = text, []
        for word in words:
            if word[0] is None:
                word = (self.next_word,) + word[1:]
                self.next_word += 1
            self.words.append(word)
        self.row = plain_row(self.grammar, [word[1:] for word in self.words])
        kinds = [self.words[at][1] for at in self.row]
        self.shape, self.many = plain_shapes(self.grammar, kinds)
        self.stop = None if self.many else plain_stop(self.grammar, kinds)
        if self.many:
            self.put_tree()

    def put_tree(self):
        nodes = plain_nodes(self.grammar, self.shape, [self.words[at][0] for at in self.row])
        for node in nodes:
            node.number = self.old_number(node)
            if node.number is None:
                node.number = self.next_node
                self.next_node += 1
        self.last = nodes

    def old_number(self, node):
        if node.words:
            alike = [old for old in self.last if old.words == node.words and old.label == node.label]
            return alike[0].number if alike else None
        if node.home is None:
            return self.last[0].number if self.last and not self.last[0].words and self.last[0].label == node.label else None
        homes = [old for old in self.last if old.number == node.home.number]
        if not homes or node.place > len(homes[0].parts):
            return None
        old = homes[0].parts[node.place - 1]
        return old.number if isinstance(old, PlainNode) and not old.words and old.label == node.label else None

    def edit(self, rows):
        """Does edits one behind the other; False where each has nothing left."""
        words, text, changed = list(self.words), self.text, False
        for at, gone, put in rows:
            while gone and put and text[at] == put[0]:
                at, gone, put = at + 1, gone - 1, put[1:]
            while gone and put and text[at + gone - 1] == put[-1]:
                gone, put = gone - 1, put[:-1]
            if not gone and not put:
                continue
            changed = True
            text = text[:at] + put + text[at + gone:]
            new = []
            for kind, told, place, look in plain_words(self.grammar, text):
                stays = [number for number, old_kind, old_told, old_place,
                         _ in words if (old_kind, old_told) == (kind, told) and (
                    old_place + len(old_told) <= at and place == old_place
                    or old_place >= at + gone and place == old_place + len(put) - gone)]
                new.append((stays[0] if stays else None, kind, told, place, look))
            words = new
        if changed:
            self.put(words, text)
        return changed

    def snapshot(self):
        words = {number: (kind, text) for number, kind, text, _, _ in self.words}
        nodes = told_nodes(self.last, words) if self.many else None
        last = [node.number for node in self.last]
        stop = None
        if self.stop is not None:
            at, kinds = self.stop
            stop = self.words[self.row[at]][0] if at < len(self.row) else None, kinds
        return self.text, list(self.words), stop, self.many, nodes, last

    def kept(self):
        """All that undo brings back."""
        return self.text, self.words, self.row, self.shape, self.many, self.stop, self.last

    def bring_back(self, kept):
        self.text, self.words, self.row, self.shape, self.many, self.stop, self.last = kept


def some_text(chance, many, alphabet="xy \n"):
    return "".join(chance.choice(alphabet) for _ in range(many))
