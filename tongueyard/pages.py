"""Pages: texts as they are cut and read, their words and nodes numbered so that those which stay keep their numbers."""

from tongueyard.errors import NoReading
from tongueyard.trees import need_walk


class Numbers:
    """The next numbers of words and of nodes."""

    def __init__(self, word_number, node_number):
        self._word_number = word_number
        self._node_number = node_number

    def take_word(self):
        self._word_number += 1
        return self._word_number - 1

    def take_node(self):
        self._node_number += 1
        return self._node_number - 1

    def twin(self):
        return Numbers(self._word_number, self._node_number)


class Grown:
    """A tree whose nodes are numbered.

    heads: the labels, None where one leads nowhere any more; nodes, parts: as those of a walk;
    words: the numbers of its words; numbers: those of its nodes, once they are put in.
    """

    def __init__(self, heads, nodes, parts, words):
        self.heads = heads
        self.nodes = nodes
        self.parts = parts
        self.words = words
        self.numbers = []

    def words_at(self, at):
        """The numbers of the words of a node, a tuple."""
        return tuple(self.words[self.nodes[at][2]:self.nodes[at][3]])

    def is_bare(self, at):
        """Whether a node has no words."""
        return self.nodes[at][2] == self.nodes[at][3]

    def led(self, bridge):
        """The same tree, its labels led over a bridge."""
        heads = [None if label is None else bridge.leads(label) for label in self.heads]
        other = Grown(heads, self.nodes, self.parts, self.words)
        other.numbers = self.numbers
        return other

    def number_by(self, last, numbers):
        """Gives each node the number that it had in the last tree, None where there is none, or a new one."""
        by_words = {}
        for at, label in enumerate(last.heads if last is not None else []):
            if label is not None and not last.is_bare(at):
                by_words.setdefault((label, last.words_at(at)), last.numbers[at])
        places = {number: at for at, number in enumerate(last.numbers)} if last is not None else {}
        for at, label in enumerate(self.heads):
            number = by_words.get((label, self.words_at(at)))
            if self.is_bare(at) and last is not None:
                number = self.bare_number(at, last, places)
            self.numbers.append(numbers.take_node() if number is None else number)

    def bare_number(self, at, last, places):
        """The number that a node without words had in the last tree, or None; those ahead have theirs."""
        above, place, _, _, _ = self.nodes[at]
        old = 0
        if above is not None:
            old_above = places.get(self.numbers[above])
            if old_above is None or place > len(last.parts[old_above]):
                return None
            kind, old = last.parts[old_above][place - 1]
            if kind == "word":
                return None
        return last.numbers[old] if last.is_bare(old) and last.heads[old] == self.heads[at] else None


class Page:
    """A text, cut and read by a reader.

    words: the tuple of its words (number, kind, text, place, look), numbers None until they are put in;
    row_spots: which of them are not skipped; row: the kinds of these; reading: what the row reads to;
    last: the last tree, this text's own where it reads, None where there was none yet;
    spans: of a text that reads for each node the places (from, behind).
    """

    def __init__(self, reader, text, words):
        self.reader = reader
        self.text = text
        self.words = tuple(words)
        self.row_spots = [at for at, word in enumerate(words) if not reader.is_skipped(word[1])]
        self.row = [words[at][1] for at in self.row_spots]
        self.reading = reader.reading_of(self.row)
        self.last = None
        self.spans = []

    def number_words(self, numbers):
        """Gives each word that has no number the next one."""
        self.words = tuple([word if word[0] is not None else (numbers.take_word(),) + word[1:] for word in self.words])

    def grow(self):
        """The tree of a text that reads, its words having numbers, not its nodes."""
        walk = need_walk(self.reader.grammar_read(), self.reading.shape, None)
        return Grown(walk.heads, walk.nodes, walk.parts, [self.words[at][0] for at in self.row_spots])

    def number_by(self, last, numbers):
        """Gives new words and new nodes their numbers, the last tree ahead being told."""
        self.number_words(numbers)
        self.last = last
        if self.reads():
            grown = self.grow()
            grown.number_by(last, numbers)
            self.take_tree(grown)

    def take_tree(self, grown):
        """Takes the text's own tree, its nodes having numbers."""
        self.last = grown
        starts = [self.words[spot][3] for spot in self.row_spots]
        ends = [0] + [self.words[spot][3] + len(self.words[spot][2]) for spot in self.row_spots]
        # A node without words stands behind the last word ahead of it.
        self.spans = [(starts[first] if first < behind else ends[first], ends[behind])
                      for _, _, first, behind, _ in grown.nodes]

    def reads(self):
        return self.reading.shape is not None

    def need_reading(self):
        """Refuses a text that does not read."""
        if not self.reads():
            raise NoReading(self.reading.stop, list(self.reading.may_kinds))

    def tree_told(self):
        self.need_reading()
        return self.reading.shape, tuple([self.words[at][1:3] for at in self.row_spots])

    def many_told(self):
        self.need_reading()
        return self.reading.many

    def stop_told(self):
        """None where the text reads, else (the number of the stop's word or None, what may stand there)."""
        if self.reads():
            return None
        at = self.reading.stop
        number = self.words[self.row_spots[at]][0] if at < len(self.row_spots) else None
        return number, list(self.reading.may_kinds)

    def nodes_told(self):
        """The numbered tree by the numbers of its nodes."""
        self.need_reading()
        words = self.tree_told()[1]
        told = {}
        numbers = self.last.numbers
        for number, label, parts in zip(numbers, self.last.heads, self.last.parts):
            told[number] = (label, tuple([words[at] if kind == "word" else numbers[at] for kind, at in parts]))
        return numbers[0], told

    def place_of_node(self, number):
        """The place of a node in the shape, None where the tree has no node of that number."""
        self.need_reading()
        return self.last.numbers.index(number) if number in self.last.numbers else None
