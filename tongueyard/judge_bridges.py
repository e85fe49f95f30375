"""The judge of papers of trees that are led from one grammar to another one."""

from tongueyard.grammars import Grammar
from tongueyard.judge_rows import are_rising, is_tuple_of_rows
from tongueyard.patterns import spells
from tongueyard.things import is_row_of, is_whole
from tongueyard.trees import is_tree, numbered


def led_holds(grammar, paper):
    """Whether a tuple that begins with "led" is a paper that holds, the grammar being the old one."""
    if not is_row_of(paper, 6) or not isinstance(paper[1], Grammar):
        return False
    _, new, names, templates, tree, other = paper
    if not are_pairs(names) or not are_pairs(templates):
        return False
    judged = JudgedStep(grammar, new, names)
    if not judged.are_names(names) or not all([judged.is_template(label, pieces) for label, pieces in templates]):
        return False
    if not is_tree(grammar, tree) or not is_tree(new, other):
        return False
    return judged.leads({label: pieces for label, pieces in templates}, tree, other)


def are_pairs(thing):
    """Whether a thing is a tuple of pairs, their first members texts, each greater than the one ahead."""
    if not is_tuple_of_rows(thing, 2) or not all([isinstance(text, str) for text, _ in thing]):
        return False
    return are_rising([text for text, _ in thing])


class JudgedStep:
    """What is asked of names and templates that lead from an old grammar to a new one."""

    def __init__(self, old, new, names):
        self._old = old
        self._new = new
        self._names = {name: other for name, other in names}
        self._patterns = {name: pattern for name, pattern, _ in new.kinds()}

    def are_names(self, names):
        """Whether names lead rules to rules, kinds to kinds, unlike ones to unlike ones."""
        for name, other in names:
            if not isinstance(other, str):
                return False
            both_rules = self._old.is_rule(name) and self._new.is_rule(other)
            if not both_rules and not (self._old.is_kind(name) and self._new.is_kind(other)):
                return False
        return len(set([other for _, other in names])) == len(names)

    def is_template(self, label, pieces):
        """Whether pieces are a template for a label: a walk for the rule to which its rule leads."""
        if not self._old.is_label(label) or self._old.rule_of(label) not in self._names:
            return False
        if not isinstance(pieces, tuple) or len(pieces) == 0 or not has_word(pieces[0], "node"):
            return False
        # What is due, the next one last.
        due = [self._names[self._old.rule_of(label)]]
        for piece in pieces:
            if not due or not self.can_stand(label, piece, due[-1]):
                return False
            due.pop()
            if piece[0] == "node":
                due.extend(self._new.row_of(piece[1])[::-1])
        return not due

    def can_stand(self, label, piece, symbol):
        """Whether a thing is a piece that can stand where a symbol of the new grammar is due."""
        if not isinstance(piece, tuple) or len(piece) == 0 or not isinstance(piece[0], str):
            return False
        if piece[0] == "node":
            return len(piece) == 2 and self._new.is_label(piece[1]) and self._new.rule_of(piece[1]) == symbol
        if piece[0] == "word":
            return len(piece) == 3 and self.is_word(piece[1], piece[2]) and piece[1] == symbol
        if piece[0] == "part":
            found = self.symbol_at(label, piece[1]) if len(piece) == 2 else None
        else:
            found = self.symbol_within(label, piece) if piece[0] == "within" and len(piece) == 4 else None
        return found in self._names and self._names[found] == symbol

    def is_word(self, kind, text):
        """Whether things are a kind of the new grammar and a text that it spells."""
        if not isinstance(kind, str) or kind not in self._patterns or not isinstance(text, str):
            return False
        return spells(self._patterns[kind], text)

    def symbol_at(self, label, place):
        """The symbol at a place of an old label's row, None where there is none."""
        row = self._old.row_of(label)
        return row[place - 1] if is_whole(place) and 1 <= place <= len(row) else None

    def symbol_within(self, label, piece):
        """The symbol that a piece ("within", place, label, inner) names, None where there is none."""
        _, place, only, inner = piece
        name = self.symbol_at(label, place)
        if name is None or not self._old.is_rule(name) or not isinstance(only, str):
            return None
        return self.symbol_at(only, inner) if self._old.labels_of(name) == [only] else None

    def leads(self, templates, tree, other):
        """Whether a tree becomes another one by the templates."""
        _, nodes = numbered(self._old, tree)
        shape, words = other
        labels_done = 0
        words_done = 0
        due = [0]
        while due:
            part = due.pop()
            if isinstance(part, tuple):
                # What is led may be far longer than the other tree: it is left at the first difference.
                is_node = part[0] == "node"
                if is_node and shape[labels_done:labels_done + 1] != part[1:]:
                    return False
                if not is_node and words[words_done:words_done + 1] != (part[1:],):
                    return False
                labels_done = labels_done + (1 if is_node else 0)
                words_done = words_done + (0 if is_node else 1)
            elif nodes[part][0] in templates:
                due.extend(self.led_pieces(templates, nodes, part)[::-1])
            else:
                return False
        return labels_done == len(shape) and words_done == len(words)

    def led_pieces(self, templates, nodes, node):
        """The pieces to which a node leads: nodes and words as they are to come, and numbers of old nodes."""
        label, parts = nodes[node]
        led = []
        for piece in templates[label]:
            if piece[0] == "node" or piece[0] == "word":
                led.append(piece)
            else:
                part = parts[piece[1] - 1] if piece[0] == "part" else nodes[parts[piece[1] - 1]][1][piece[3] - 1]
                if isinstance(part, tuple):
                    led.append(("word", self._names[part[0]], part[1]))
                else:
                    led.append(part)
        return led


def has_word(thing, word):
    """Whether a thing is a tuple that begins with a word."""
    return isinstance(thing, tuple) and len(thing) > 0 and isinstance(thing[0], str) and thing[0] == word
