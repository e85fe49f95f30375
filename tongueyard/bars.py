"""Grammars with bars, parted into grammars without them that have the same trees."""

from tongueyard.errors import AllBarred, NoLabel, TooMany
from tongueyard.grammars import Grammar
from tongueyard.names import fresh
from tongueyard.trees import need_walk

MOST_PAIRS = 40
MOST_OPEN = 100


def parted(grammar):
    """A grammar parted by its bars."""
    return Parted(grammar)


class Parted:
    def __init__(self, grammar):
        self._grammar = grammar
        # For each (pair, label) the plain label, and back; none where there are no bars.
        self._called = {}
        self._old_labels = {label: label for label in grammar.labels()}
        self._plain = grammar
        self._places = BarredPlaces(grammar)
        if grammar.bars():
            self.part()

    def part(self):
        """Makes the plain grammar of the pairs of a rule and what is barred where it is come to."""
        pairs = self._places.met_pairs()
        left = self._places.left_labels(pairs)
        names = pair_names(self._grammar, left)
        self._called = label_names(self._grammar, left)
        self._old_labels = {called: label for (_, label), called in self._called.items()}
        rules = []
        for pair, labels in left.items():
            rules.append((names[pair], [(self._called[(pair, label)], self.plain_row(label, names))
                                        for label in labels]))
        self._plain = Grammar(self._grammar.kinds(), rules)

    def plain_row(self, label, names):
        """A label's row, each rule in it called as its pair."""
        row = self._grammar.row_of(label)
        pairs = [self._places.pair_at(label, place) for place in range(1, len(row) + 1)]
        return tuple([names.get(pair, symbol) for symbol, pair in zip(row, pairs)])

    def plain(self):
        return self._plain

    def old_label(self, label):
        if label not in self._old_labels:
            raise NoLabel(label)
        return self._old_labels[label]

    def led_in(self, shape):
        walk = need_walk(self._grammar, shape, None)
        if not self._called:
            return tuple(shape)
        led = []
        for label, (above, place, _, _, _) in zip(shape, walk.nodes):
            pair = self._places.top if above is None else self._places.pair_at(shape[above], place)
            led.append(self._called[(pair, label)])
        return tuple(led)

    def led_out(self, shape):
        need_walk(self._plain, shape, None)
        return tuple([self._old_labels[label] for label in shape])


class BarredPlaces:
    """What the bars of a grammar keep from each place of its labels.

    A pair is (rule, labels), the labels those of the rule that are barred; top is the beginning's pair.
    """

    def __init__(self, grammar):
        self._grammar = grammar
        self._bars = {}
        for label, place, other in grammar.bars():
            self._bars.setdefault((label, place), []).append(other)
        self.top = (grammar.begin(), ())

    def pair_at(self, label, place):
        """The pair of a place; of a kind's place nobody asks more than that it is none of a rule."""
        barred = sorted(self._bars.get((label, place), []))
        return self._grammar.row_of(label)[place - 1], tuple(barred)

    def pairs_of(self, label):
        """The list of the pairs of a label's places, from the left, those of kinds left out."""
        row = self._grammar.row_of(label)
        return [self.pair_at(label, at + 1) for at, symbol in enumerate(row) if self._grammar.is_rule(symbol)]

    def labels_of_pair(self, pair):
        """The list of the labels of a pair's rule that are not barred."""
        name, barred = pair
        return [label for label in self._grammar.labels_of(name) if label not in barred]

    def met_pairs(self):
        """The list of the pairs as they are met; refuses too many pairs, then too many alternatives."""
        met = [self.top]
        known = {self.top: True}
        done = 0
        while done < len(met):
            labels = self.labels_of_pair(met[done])
            done += 1
            for label in labels:
                for pair in self.pairs_of(label):
                    if pair not in known:
                        known[pair] = True
                        met.append(pair)
        if len(met) > MOST_PAIRS:
            raise TooMany(MOST_PAIRS)
        if sum([len(self.labels_of_pair(pair)) for pair in met]) > MOST_OPEN:
            raise TooMany(MOST_OPEN)
        return met

    def left_labels(self, pairs):
        """For each pair that is left, in order, its labels that are left; refuses where the top falls out."""
        left = {pair: self.labels_of_pair(pair) for pair in pairs}
        many = -1
        while many != sum([len(labels) for labels in left.values()]):
            many = sum([len(labels) for labels in left.values()])
            left = {pair: [label for label in labels if all([left[part] for part in self.pairs_of(label)])]
                    for pair, labels in left.items()}
        if not left[self.top]:
            raise AllBarred()
        met = self.come_to(left)
        return {pair: left[pair] for pair in pairs if pair in met}

    def come_to(self, left):
        """A dict of the pairs that are come to from the top by labels that are left."""
        met = {self.top: True}
        due = [self.top]
        while due:
            labels = left[due.pop()]
            for label in labels:
                for pair in self.pairs_of(label):
                    if pair not in met:
                        met[pair] = True
                        due.append(pair)
        return met


def pair_names(grammar, left):
    """For each pair that is left the name of its rule."""
    taken = [name for name, _, _ in grammar.kinds()] + [name for name, _ in grammar.rules()]
    names = {}
    for name, barred in left:
        called = name
        if barred:
            called = fresh(name, taken)
            taken.append(called)
        names[(name, barred)] = called
    return names


def label_names(grammar, left):
    """For each (pair, label) that is left the name of its label."""
    taken = grammar.labels()
    names = {}
    for pair, labels in left.items():
        for label in labels:
            called = label
            if pair[1]:
                called = fresh(label, taken)
                taken.append(called)
            names[(pair, label)] = called
    return names
