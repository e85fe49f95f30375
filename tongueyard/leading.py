"""Trees led over one step: what of the old one is taken, and what comes of it."""

from tongueyard.patterns import Speller
from tongueyard.trees import need_walk


class LedTree:
    """What comes of a tree of a step's old grammar by its templates.

    lost: None, or (number, why) of the first node or word that can't be led; nothing else is there then.
    shape, new_words: the new labels and words; nodes, words: dicts from new numbers to old ones.
    """

    def __init__(self, step, tree):
        self._step = step
        self._templates = step.templates()
        self._walk = need_walk(step.old(), tree[0], None)
        self._words = tree[1]
        self._spellers = {name: Speller(pattern) for name, pattern, _ in step.new().kinds()}
        self.shape = []
        self.new_words = []
        self.nodes = {}
        self.words = {}
        self.lost = self.first_lost()
        if self.lost is None:
            self.put_together()

    def tree(self):
        return tuple(self.shape), tuple(self.new_words)

    def part_of(self, node, piece):
        """The part of the old tree that a piece of a node's template takes: ("node", number) or ("word", number)."""
        part = self._walk.parts[node][piece[1] - 1]
        return self._walk.parts[part[1]][piece[3] - 1] if piece[0] == "within" else part

    def template_at(self, node):
        """The template of a node's label, None where there is none."""
        return self._templates.get(self._walk.heads[node])

    def first_lost(self):
        """The first node or word, in the old order, that templates come to and that can't be led."""
        taken = {("node", 0): True}
        due = [("node", 0)]
        while due:
            part = due.pop()
            if part in taken and not self.can_lead(part):
                return part[1], "label" if part[0] == "node" else "word"
            if part[0] == "node":
                # What a template takes stands beneath its node, so it is still to come.
                pieces = self.template_at(part[1]) if part in taken else ()
                for piece in pieces:
                    if piece[0] in ("part", "within"):
                        taken[self.part_of(part[1], piece)] = True
                due.extend(self._walk.parts[part[1]][::-1])
        return None

    def can_lead(self, part):
        """Whether a node has a template, or a word's kind a name whose kind spells it."""
        sort, number = part
        if sort == "node":
            return self.template_at(number) is not None
        kind, text = self._words[number]
        name = self._step.leads_name(kind)
        return name is not None and self._spellers[name].takes(text)

    def put_together(self):
        due = [("node", 0)]
        while due:
            sort, told = due.pop()
            if sort == "made":
                self.shape.append(told)
            elif sort == "put":
                self.new_words.append(told)
            elif sort == "word":
                self.words[len(self.new_words)] = told
                kind, text = self._words[told]
                self.new_words.append((self._step.leads_name(kind), text))
            else:
                self.nodes[len(self.shape)] = told
                due.extend([self.due_by(told, piece) for piece in self.template_at(told)[::-1]])

    def due_by(self, node, piece):
        """What comes where a piece of a node's template stands."""
        if piece[0] == "node":
            return "made", piece[1]
        if piece[0] == "word":
            return "put", piece[1:]
        return self.part_of(node, piece)
