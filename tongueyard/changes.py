"""What a deed changes of a grammar, gathered before the new one is made."""

from tongueyard.grammars import Grammar


class Change:
    """A grammar in the making, and how what it had is called and stands in it.

    kind_rows: its kinds; rule_rows: its rules (name, list of alternatives); top: where it begins; bar_rows: its bars;
    called: a dict from old names to new ones, without those taken out.
    """

    def __init__(self, grammar):
        self.grammar = grammar
        self.kind_rows = grammar.kinds()
        self.rule_rows = grammar.rules()
        self.top = grammar.begin()
        self.bar_rows = list(grammar.bars())
        self.called = {name: name for name in [row[0] for row in self.kind_rows] + [row[0] for row in self.rule_rows]}
        # By old labels what they are called now, and for each place of the row the pieces that stand there.
        self._labels = {label: label for label in grammar.labels()}
        self._parts = {label: [[("part", at + 1)] for at in range(len(grammar.row_of(label)))]
                       for label in grammar.labels()}

    def made(self):
        """The new grammar; refuses what makes none."""
        return Grammar(self.kind_rows, self.rule_rows, begin=self.top, bars=tuple(self.bar_rows))

    def templates(self):
        """The dict from old labels to their templates."""
        return {label: (("node", called),) + tuple([piece for part in self._parts[label] for piece in part])
                for label, called in self._labels.items()}

    def call_name(self, name, other):
        """Calls a kind or a rule otherwise, wherever it stands."""
        self.kind_rows = [((other,) + row[1:] if row[0] == name else row) for row in self.kind_rows]
        self.rule_rows = [(other if old == name else old,
                           [(label, tuple([other if symbol == name else symbol for symbol in row]))
                            for label, row in alternatives]) for old, alternatives in self.rule_rows]
        self.top = other if self.top == name else self.top
        self.called[name] = other

    def call_label(self, label, other):
        """Calls a label otherwise, wherever it stands."""
        self.rule_rows = [(name, [(other if old == label else old, row) for old, row in alternatives])
                          for name, alternatives in self.rule_rows]
        self.bar_rows = [(other if above == label else above, place, other if below == label else below)
                         for above, place, below in self.bar_rows]
        self._labels[label] = other

    def add_alternative(self, name, at, label, row):
        """Puts an alternative of a rule in, ahead of that with a number."""
        for old, alternatives in self.rule_rows:
            if old == name:
                alternatives.insert(at, (label, row))

    def drop_label(self, label):
        """Takes an alternative out, and the bars that name it."""
        self.rule_rows = [(name, [one for one in alternatives if one[0] != label])
                          for name, alternatives in self.rule_rows]
        self.forget_label(label)

    def forget_label(self, label):
        self.bar_rows = [row for row in self.bar_rows if row[0] != label and row[2] != label]
        del self._labels[label]

    def put_rule(self, at, name, alternatives):
        """Puts a rule in, ahead of that with a number."""
        self.rule_rows.insert(at, (name, list(alternatives)))

    def drop_rule(self, name):
        """Takes a rule out, with its labels."""
        self.rule_rows = [row for row in self.rule_rows if row[0] != name]
        for label in self.grammar.labels_of(name):
            self.forget_label(label)
        del self.called[name]

    def put_row(self, label, row):
        """Gives a label another row."""
        self.rule_rows = [(name, [(old, tuple(row) if old == label else symbols) for old, symbols in alternatives])
                          for name, alternatives in self.rule_rows]

    def put_parts(self, label, parts):
        """Gives a label's template other parts: the list of the pieces of each place."""
        self._parts[label] = parts

    def move_bars(self, label, places):
        """Leads the bars of a label along with its places, a dict; those that it has not fall out."""
        self.bar_rows = [(above, places[place] if above == label else place, below)
                         for above, place, below in self.bar_rows if above != label or place in places]
