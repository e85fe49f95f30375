"""The judge of what is known of a grammar: least shapes, what begins, stands and follows, rings."""

from tongueyard.errors import NoTree
from tongueyard.grammars import END
from tongueyard.judge_rows import CleanRows, are_rising, has_all, is_number_to, is_tuple_of_rows
from tongueyard.things import is_row_of, is_whole
from tongueyard.trees import need_walk


def known_holds(grammar, paper):
    """Whether a tuple that begins with "known" is a paper that holds."""
    if not is_row_of(paper, 7) or len(grammar.bars()) > 0:
        return False
    _, least, begins, stands, follows, ring, falls = paper
    judged = JudgedKnown(grammar)
    if not judged.are_least(least) or not judged.are_begins(begins):
        return False
    if not judged.are_stands(stands) or not judged.are_follows(follows):
        return False
    if not isinstance(ring, tuple) or not isinstance(falls, tuple):
        return False
    if len(ring) > 0:
        return len(falls) == 0 and judged.is_ring(ring)
    return judged.are_falls(falls)


class JudgedKnown:
    """The parts of such a paper, to be judged in their order; the later ones lean on those ahead."""

    def __init__(self, grammar):
        self._grammar = grammar
        self._clean = CleanRows(grammar)
        # By rules: the kinds that are told to begin them, those told to follow them, and all that are told to stand.
        self._begun = {name: {} for name, _ in grammar.rules()}
        self._following = {name: {} for name in self._begun}
        self._standing = {}

    def walk_of(self, name, shape):
        """The walk over a thing that is to be a shape of a rule, None where it is none."""
        if not isinstance(shape, tuple):
            return None
        try:
            return need_walk(self._grammar, shape, name)
        except NoTree:
            return None

    def are_rows(self, thing, many, keys):
        """Whether a thing is a tuple of so long rows, each rising over the one ahead by its keys, the first a rule."""
        if not is_tuple_of_rows(thing, many):
            return False
        if not all([isinstance(key, str) for row in thing for key in row[:keys]]):
            return False
        return are_rising([row[:keys] for row in thing]) and all([row[0] in self._begun for row in thing])

    def are_least(self, thing):
        if not self.are_rows(thing, 2, 1):
            return False
        costs = {}
        for name, shape in thing:
            walk = self.walk_of(name, shape)
            if walk is None:
                return False
            costs[name] = (len(walk.row), len(shape))
        return all([self.is_as_least(name, row, costs) for name, alternatives in self._grammar.rules()
                    for _, row in alternatives])

    def is_as_least(self, name, row, costs):
        """Whether a rule has a shape with no more words, and with as many no more labels, than an alternative's."""
        parts = [symbol for symbol in row if symbol in self._begun]
        if not all([part in costs for part in parts]):
            return True
        words = len(row) - len(parts) + sum([costs[part][0] for part in parts])
        labels = 1 + sum([costs[part][1] for part in parts])
        return name in costs and costs[name] <= (words, labels)

    def are_begins(self, thing):
        if not self.are_rows(thing, 3, 2):
            return False
        for name, kind, shape in thing:
            walk = self.walk_of(name, shape)
            if walk is None or walk.row[:1] != [kind]:
                return False
            self._begun[name][kind] = True
        return all([has_all(self._begun[self._clean.homes[label]], self.begun_by(row))
                    for label, row in self._clean.rows.items()])

    def begun_by(self, symbols):
        """The list of the kinds with which symbols are told to begin."""
        found = []
        for symbol in symbols:
            found.extend(list(self._begun.get(symbol, [symbol])))
            if symbol not in self._clean.empty:
                return found
        return found

    def are_stands(self, thing):
        if not self.are_rows(thing, 3, 1):
            return False
        for name, shape, node in thing:
            if self.walk_to(name, shape, node) is None:
                return False
            self._standing[name] = True
        begin = self._grammar.begin()
        if self._clean.fruits[begin] and begin not in self._standing:
            return False
        return all([part in self._standing for _, _, part in self.rule_spots()])

    def walk_to(self, name, shape, node):
        """The walk over a shape of the beginning in which a node is one of a rule, else None."""
        walk = self.walk_of(None, shape)
        if walk is None or not is_number_to(node, len(walk.heads) - 1):
            return None
        return walk if self._grammar.rule_of(walk.heads[node]) == name else None

    def rule_spots(self):
        """The list of (rule, symbols behind the part, the part) of all rules in clean rows of those told to stand."""
        return [(name, self._clean.rows[label][at + 1:], part) for name in self._standing
                for label in self._clean.fruits[name] for at, part in enumerate(self._clean.rows[label])
                if part in self._begun]

    def are_follows(self, thing):
        if not self.are_rows(thing, 4, 2):
            return False
        for name, kind, shape, node in thing:
            walk = self.walk_to(name, shape, node)
            if walk is None or (walk.row + [END])[walk.nodes[node][3]] != kind:
                return False
            self._following[name][kind] = True
        begin = self._grammar.begin()
        if self._clean.fruits[begin] and END not in self._following[begin]:
            return False
        for name, rest, part in self.rule_spots():
            if not has_all(self._following[part], self.begun_by(rest)):
                return False
            if self._clean.is_empty(rest) and not has_all(self._following[part], self._following[name]):
                return False
        return True

    def is_ring(self, thing):
        """Whether a tuple is one of steps, no label twice, that go round."""
        if not is_tuple_of_rows(thing, 2) or not all([self.is_step(label, place) for label, place in thing]):
            return False
        names = [self._clean.homes[label] for label, _ in thing]
        parts = [self._clean.rows[label][place - 1] for label, place in thing]
        return len(set([label for label, _ in thing])) == len(thing) and parts == names[1:] + names[:1]

    def is_step(self, label, place):
        """Whether things are a step, of a rule that is told to stand."""
        if not isinstance(label, str) or label not in self._clean.rows or not is_whole(place):
            return False
        return self._clean.homes[label] in self._standing and self._clean.is_step(label, place)

    def are_falls(self, thing):
        """Whether a tuple has a number for each rule told to stand, which falls along each step."""
        if not self.are_rows(thing, 2, 1) or not all([is_whole(number) for _, number in thing]):
            return False
        falls = {name: number for name, number in thing}
        if len(falls) != len(self._standing) or not has_all(falls, self._standing):
            return False
        return all([falls[name] > falls[part] for name, part in self._clean.steps(self._standing)])
