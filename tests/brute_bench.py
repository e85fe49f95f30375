"""A slow and plain bench: documents told anew for each text, states copied for undo."""

from tests.brute import more, signs
from tests.brute_bridges import plain_led
from tests.brute_documents import PlainDocument, plain_row, plain_words, told_nodes
from tests.brute_grammars import SUMS, grammar_of
from tests.brute_printing import PlainPrint
from tests.brute_worths import PlainTree
from tongueyard.bridges import Bridge
from tongueyard.cutting import is_good
from tongueyard.deeds import turn
from tongueyard.documents import LIMIT
from tongueyard.grammars import Grammar
from tongueyard.ledtallies import led_tally
from tongueyard.mends import mend
from tongueyard.patterns import least_spelled
from tongueyard.readers import Reader
from tongueyard.tallies import completed
from tongueyard.trees import is_tree
from tongueyard.wordtables import least_word, word_table

KINDS = [("x", signs("x"), False), ("y", more(signs("y")), False), ("gap", more(signs("\n ")), True)]
SAMPLES = {
    "sums": Grammar([("num", more(signs("0123456789")), False), ("plus", signs("+"), False),
                     ("gap", more(signs("\n ")), True)], SUMS.rules()),
    "lists": grammar_of("a: p b a | q\n b: s y e c\n c: t | u x c\n e: v f\n f: w", kinds=KINDS),
    "two": grammar_of("a: p a x a | q y | r", kinds=KINDS),
    "bars": grammar_of("a: p a x a | r y | s", bars=(("p", 3, "p"), ("p", 1, "s")), kinds=KINDS),
    "even": grammar_of("a: p x a x | q y a y | r", kinds=KINDS),
}
ALPHABETS = {"sums": "12+ ?"}


class Refused(Exception):
    """What a deed is refused with: its class's name and what is told with it."""


class PlainLeaf:
    def __init__(self, home, number, still, document):
        self.home, self.number, self.still, self.document = home, number, still, document

    def kept(self):
        return self.home, self.number, self.still, self.document.grammar, self.document.kept()


def brought_back(kept):
    home, number, still, grammar, page = kept
    document = PlainDocument.__new__(PlainDocument)
    document.grammar = grammar
    document.bring_back(page)
    return PlainLeaf(home, number, still, document)


class PlainBench:
    def __init__(self):
        # Of each grammar its versions: (grammar, marks, tally, bridge).
        self.grammars, self.leaves = {}, {}
        self.next_word, self.next_node = 1, 1
        self.past, self.future, self.spared, self.ahead = [], [], [], None

    def state(self):
        return {name: list(rows) for name, rows in self.grammars.items()}, {name: leaf.kept() for name,
            leaf in self.leaves.items()}

    def bring(self, state):
        self.grammars = {name: list(rows) for name, rows in state[0].items()}
        self.leaves = {name: brought_back(kept) for name, kept in state[1].items()}

    def begin(self):
        """Keeps all as it is, for a step that is about to be done."""
        self.past.append(self.state())
        self.future = []
        self.ahead = self.all_seen()
        self.spared = []

    def move(self, source, goal):
        goal.append(self.state())
        self.ahead = self.all_seen()
        self.spared = []
        self.bring(source.pop())

    def numbered(self, document, do):
        """Does something with a document by the bench's next numbers."""
        document.next_word, document.next_node = self.next_word, self.next_node
        told = do(document)
        self.next_word, self.next_node = document.next_word, document.next_node
        return told

    def version_of(self, leaf):
        return self.grammars[leaf.home][leaf.number]

    def newest(self, name):
        return self.grammars[name][-1]

    def found(self, name, grammar):
        self.begin()
        self.grammars[name] = [(grammar, {}, None, None)]

    def put_newest(self, name, row):
        self.begin()
        self.grammars[name][-1] = row

    def open(self, name, home, text, still):
        self.begin()
        document = PlainDocument(self.newest(home)[0], text, self.next_word, self.next_node)
        self.next_word, self.next_node = document.next_word, document.next_node
        self.leaves[name] = PlainLeaf(home, len(self.grammars[home]) - 1, still, document)

    def close(self, name):
        self.begin()
        del self.leaves[name]

    def edit(self, name, rows):
        ahead, seen = self.state(), self.all_seen()
        if self.numbered(self.leaves[name].document, lambda document: document.edit(rows)):
            self.past.append(ahead)
            self.future, self.ahead, self.spared = [], seen, []

    def turn(self, name, deeds):
        """The next version; all that refuses it is what the program's own functions tell."""
        grammar, marks, tally, _ = self.newest(name)
        new, bridge = turn(grammar, deeds)
        reader = Reader(new)
        if tally is not None:
            tally = completed(new, *led_tally(bridge, tally)[:2])
            downs = [mark[0] for mark in tally[0] if mark[1] == "down" and new.begin() in mark[3]]
            if downs:
                raise Refused("NoGiven", downs[0])
        self.begin()
        new_marks = {}
        for label in grammar.labels():
            if bridge.straight(label) and label in marks and bridge.leads(label) not in new_marks:
                new_marks[bridge.leads(label)] = marks[label]
        self.grammars[name].append((new, new_marks, tally, bridge))
        for one in sorted(self.leaves):
            leaf = self.leaves[one]
            if leaf.home == name and not leaf.still:
                if self.turn_leaf(leaf, new, bridge, reader):
                    self.spared.append(one)

    def turn_leaf(self, leaf, new, bridge, reader):
        """Leads a document to the newest version; whether it is spared."""
        old, document = leaf.document, leaf.document
        leaf.number += 1
        row, shape, words, tree_words = old.row, old.shape if old.many else None, list(old.words), [old.words[at] for at in old.row]
        led_kinds = {word[1]: "" if word[1] == "" else bridge.leads_name(word[1]) for word in words}
        new_words = []
        for kind, text, place, look in plain_words(new, old.text):
            stays = [word[0] for word in words if led_kinds[word[1]] == kind and word[2:4] == (text, place)]
            new_words.append((stays[0] if stays else None, kind, text, place, look))
        spared = (shape is not None and reader.has_table() and all(word[0] is not None for word in new_words) and len(words) == len(new_words)
                  and [led_kinds[word[1]] for word in tree_words] == [new_words[at][1] for at in plain_row(new,
                      [word[1:] for word in new_words])]
                  and all(bridge.straight(label) for label in shape)
                  and is_tree(new, (tuple(bridge.leads(label) for label in shape),
                                    tuple((led_kinds[word[1]], word[2]) for word in tree_words))))
        document.grammar = new
        nodes = []
        for node in document.last:
            nodes.append(node)
            node.led = None if node.label is None else bridge.leads(node.label)
        document.last = self.copied(nodes)
        self.numbered(document, lambda one: one.put(new_words, one.text))
        return spared

    def copied(self, nodes):
        """The nodes of a last tree, their labels led."""
        twins = {}
        for node in nodes:
            twin = type(node)(node.led, twins.get(id(node.home)), node.place)
            twin.number, twin.words = node.number, node.words
            twins[id(node)] = twin
        for node in nodes:
            twins[id(node)].parts = [twins.get(id(part), part) for part in node.parts]
        return [twins[id(node)] for node in nodes]

    def print_of(self, name, width=None):
        leaf = self.leaves[name]
        grammar, marks, _, _ = self.version_of(leaf)
        return self.printed(grammar, marks, self.tree(leaf), width)

    def printed(self, grammar, marks, tree, width=None):
        table = word_table(grammar.kinds())
        for number, (kind, text) in enumerate(tree[1]):
            if not is_good(table, kind, text):
                raise Refused("NotGood", number)
        told = PlainPrint(grammar, marks, tree, width).told()
        if isinstance(told, int):
            raise Refused("NoPrint", told)
        return told[0]

    def tree(self, leaf):
        document = leaf.document
        return document.shape, tuple(document.words[at][1:3] for at in document.row)

    def lead(self, name):
        leaf = self.leaves[name]
        if not leaf.still:
            raise Refused("NotStill", name)
        versions = self.grammars[leaf.home]
        if leaf.number == len(versions) - 1:
            return
        if not leaf.document.many:
            raise Refused("NoReading", *leaf.document.stop)
        tree = self.tree(leaf)
        nodes, words = {at: at for at in range(len(tree[0]))}, {at: at for at in range(len(tree[1]))}
        steps = sum([row[3].steps() for row in versions[leaf.number + 1:]], [])
        for number, step in enumerate(steps):
            told = plain_led(step, tree)
            if isinstance(told[1], str):
                raise Refused("NoLead", number, *told)
            tree = told[0]
            nodes = {new: nodes[old] for new, old in told[1].items() if old in nodes}
            words = {new: words[old] for new, old in told[2].items() if old in words}
        grammar, marks, _, _ = versions[-1]
        text = self.printed(grammar, marks, tree)
        if len(text) > LIMIT:
            raise Refused("NoRoom", len(text))
        other = PlainDocument(grammar, text)
        if other.shape != tree[0]:
            raise Refused("NotAlone", name)
        self.begin()
        old = leaf.document
        old_words, old_nodes = [old.words[at][0] for at in old.row], [node.number for node in old.last]
        taken, put = [], []
        for at, word in enumerate(other.words):
            number = old_words[words[other.row.index(at)]] if at in other.row and other.row.index(at) in words else None
            put.append((None if number in taken else number,) + word[1:])
            taken.append(number)
        other.last = []
        other.next_word, other.next_node = self.next_word, 10 ** 6
        other.put(put, text)
        self.next_word = other.next_word
        taken = []
        for at, node in enumerate(other.last):
            number = old_nodes[nodes[at]] if at in nodes else None
            if number is None or number in taken:
                number = self.next_node
                self.next_node += 1
            node.number = number
            taken.append(number)
        self.leaves[name] = PlainLeaf(leaf.home, len(versions) - 1, True, other)

    def mend(self, name):
        leaf = self.leaves[name]
        if leaf.document.many:
            return 0
        grammar, marks, _, _ = self.version_of(leaf)
        document = leaf.document
        deeds = mend(Reader(grammar).parts_read().plain(), [document.words[at][1] for at in document.row])
        left, words = [document.words[at][1:3] for at in document.row], []
        for deed in deeds:
            old = left.pop(0) if deed[0] != "put" else None
            if deed[0] == "keep":
                words.append(old)
            elif deed[0] != "drop":
                text = least_word(word_table(grammar.kinds()), deed[1])
                words.append((deed[1],
                              least_spelled([one[1] for one in grammar.kinds() if one[0] == deed[1]][0]) if text is None else text))
        reading = PlainDocument(grammar, "")
        reading.put([(None, kind, text, 0, 0) for kind, text in words], "")
        text = self.printed(grammar, marks, (reading.shape, tuple(words)))
        if len(text) > LIMIT:
            raise Refused("NoRoom", len(text))
        self.edit(name, [(0, len(document.text), text)])
        return len([deed for deed in deeds if deed[0] != "keep"])

    def worths(self, name):
        """None without a tally, "round" where there is a ring."""
        leaf = self.leaves[name]
        grammar, _, tally, _ = self.version_of(leaf)
        if tally is None:
            return None
        plain = PlainTree(grammar, tally, self.tree(leaf), ())
        if plain.has_ring:
            return "round"
        return [(node.number, mark[0], plain.rows[(at, mark[0])]) for at,
                node in enumerate(leaf.document.last) for mark in tally[0]
                if grammar.rule_of(node.label) in mark[3]]

    def seen(self, name):
        document = self.leaves[name].document
        text, words, stop, many, nodes, last = document.snapshot()
        return text, [word[0] for word in words], stop, last if many else None, self.worths(name) if many else None

    def all_seen(self):
        return {name: self.seen(name) for name in self.leaves}

    def changed(self):
        if self.ahead is None:
            return []
        return sorted(name for name in self.leaves if self.ahead.get(name) != self.seen(name))


def joined_bridge(versions):
    bridge = Bridge()
    for row in versions:
        bridge = bridge.joined_to(row[3])
    return bridge


def nodes_told(document):
    return told_nodes(document.last, {word[0]: word[1:3] for word in document.words})
