"""Which trees a step does not lead, and the step that two grammars have by themselves."""

from tongueyard.bridges import Step
from tongueyard.clean import Clean, cost_of_row, least_costs, need_no_bars
from tongueyard.known import can_be_empty, least
from tongueyard.patterns import least_spelled, only_text
from tongueyard.trees import spelled_by
from tongueyard.wordtables import beyond


def hindered(step):
    """A tree of the fewest words that a step does not lead, None where it leads each one."""
    need_no_bars(step.old())
    need_no_bars(step.new())
    return Hinders(step).tree()


class Hinders:
    """The least trees of each rule that a step does not lead.

    worst: by rules (words, label, the piece of its template over which one comes to what is not led, or None).
    """

    def __init__(self, step):
        self._step = step
        self._old = step.old()
        self._templates = step.templates()
        self._clean = Clean(self._old)
        self._costs = least_costs(self._old)
        self._patterns = {name: pattern for name, pattern, _ in self._old.kinds()}
        self._lost_texts = {}
        self.worst = {}
        grown = True
        while grown:
            grown = False
            for name, alternatives in self._clean.alternatives.items():
                for label, row in alternatives:
                    for way in self.ways_of(label, row):
                        if name not in self.worst or way[0] < self.worst[name][0]:
                            self.worst[name] = way
                            grown = True

    def ways_of(self, label, row):
        """The list of (words, label, piece) for the ways known so far in which a node of a label is not led."""
        words = cost_of_row(row, self._costs)[0]
        if label not in self._templates:
            return [(words, label, None)]
        ways = []
        for piece in self._templates[label]:
            if piece[0] in ("part", "within"):
                symbol = self.symbol_of(row, piece)
                if symbol in self._patterns:
                    if self.lost_text(symbol) is not None:
                        ways.append((words, label, piece))
                elif symbol in self.worst:
                    ways.append((words - self._costs[symbol][0] + self.worst[symbol][0], label, piece))
        return ways

    def symbol_of(self, row, piece):
        """The symbol that a piece takes, of a label with a row."""
        return self._old.row_of(piece[2])[piece[3] - 1] if piece[0] == "within" else row[piece[1] - 1]

    def lost_text(self, kind):
        """A text of a kind that is not led, or None."""
        if kind not in self._lost_texts:
            name = self._step.leads_name(kind)
            if name is None:
                self._lost_texts[kind] = least_spelled(self._patterns[kind])
            else:
                others = [pattern for other, pattern, _ in self._step.new().kinds() if other == name]
                self._lost_texts[kind] = beyond(self._patterns[kind], others[0])
        return self._lost_texts[kind]

    def tree(self):
        """The least tree that is not led, None where each one is."""
        begin = self._old.begin()
        if begin not in self._clean.shapes:
            return None
        if self._step.leads_name(begin) != self._step.new().begin():
            return self.least_tree(begin)
        return self.worst_tree(begin) if begin in self.worst else None

    def least_tree(self, symbol):
        """The least tree of a rule, or of a kind the least word, as labels and words."""
        shape = self._clean.shapes.get(symbol, ())
        kinds = [symbol] if symbol in self._patterns else spelled_by(self._old, shape, name=symbol)
        return shape, tuple([(kind, least_spelled(self._patterns[kind])) for kind in kinds])

    def worst_tree(self, symbol):
        """The same of what is not led."""
        if symbol in self._patterns:
            return (), ((symbol, self.lost_text(symbol)),)
        _, label, piece = self.worst[symbol]
        row = self._old.row_of(label)
        if piece is None:
            return self.joined(label, row, 0, None)
        inner = self.worst_tree(self.symbol_of(row, piece))
        if piece[0] == "within":
            inner = self.joined(piece[2], self._old.row_of(piece[2]), piece[3], inner)
        return self.joined(label, row, piece[1], inner)

    def joined(self, label, row, place, inner):
        """The tree of a label, what is told at a place of its row, all else least."""
        shape = (label,)
        words = ()
        for at, symbol in enumerate(row):
            labels, texts = inner if at + 1 == place else self.least_tree(symbol)
            shape = shape + labels
            words = words + texts
        return shape, words


def found_step(old, new):
    """The step between what two grammars call alike."""
    names = {name: name for name, _, _ in old.kinds() if new.is_kind(name)}
    for name, _ in old.rules():
        if new.is_rule(name):
            names[name] = name
    empty_ones = {}
    if not new.bars():
        shapes = least(new)
        empty_ones = {name: shapes[name] for name in can_be_empty(new)}
    texts = {name: only_text(pattern) for name, pattern, _ in new.kinds()}
    templates = {}
    for label in old.labels():
        if new.is_label(label) and old.rule_of(label) == new.rule_of(label):
            pieces = found_template(label, old.row_of(label), new.row_of(label), names, texts, empty_ones)
            if pieces is not None:
                templates[label] = pieces
    return Step(old, new, names, templates)


def found_template(label, row, new_row, names, texts, empty_ones):
    """The template of a label by the names of its rows, None where some symbol finds nothing.

    texts: by new kinds what they spell alone, or None; empty_ones: by new rules that can be empty their least shapes.
    """
    left = list(enumerate(row))
    pieces = [("node", label)]
    for symbol in new_row:
        found = [one for one in left if one[1] == symbol and symbol in names]
        if found:
            left.remove(found[0])
            pieces.append(("part", found[0][0] + 1))
        elif texts.get(symbol) is not None:
            pieces.append(("word", symbol, texts[symbol]))
        elif symbol in empty_ones:
            pieces.extend([("node", inner) for inner in empty_ones[symbol]])
        else:
            return None
    return tuple(pieces)
