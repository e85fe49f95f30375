"""The judge of closed sets: facts of kinds, and lists of all texts with one shape each."""

from tongueyard.judge_rows import CleanRows, are_rising, are_texts, fallen, is_number_to, is_tuple_of_rows
from tongueyard.things import is_row_of
from tongueyard.trees import is_shape


def facts_hold(grammar, paper):
    """Whether ("none", kinds, facts) or ("dead", kinds, facts) holds."""
    if not is_row_of(paper, 3) or not are_texts(paper[1]) or not isinstance(paper[2], tuple):
        return False
    word, kinds, facts = paper
    if not all([is_fact(grammar, fact, len(kinds)) for fact in facts]):
        return False
    known = {fact: True for fact in facts}
    if not is_closed(grammar, kinds, known):
        return False
    if word == "dead":
        return all([fact[3] < len(kinds) for fact in known])
    return not [1 for label in grammar.labels_of(grammar.begin())
                if (label, len(grammar.row_of(label)), 0, len(kinds)) in known]


def is_fact(grammar, thing, many):
    """Whether a thing is a fact of so many kinds."""
    if not is_row_of(thing, 4) or not grammar.is_label(thing[0]):
        return False
    label, dot, first, behind = thing
    return (is_number_to(dot, len(grammar.row_of(label))) and is_number_to(behind, many)
            and is_number_to(first, behind))


def is_closed(grammar, kinds, known):
    """Whether facts, the keys of a dict, are closed."""
    clean = CleanRows(grammar)
    ends = {}
    for label, dot, first, behind in known:
        if dot == len(grammar.row_of(label)):
            ends.setdefault((grammar.rule_of(label), first), {})[behind] = True
    if not all([(label, 0, 0, 0) in known for label in clean.fruits[grammar.begin()]]):
        return False
    for fact in known:
        label, dot, _, _ = fact
        row = grammar.row_of(label)
        if dot < len(row) and not all([one in known for one in asked_by(clean, kinds, ends, fact, row[dot])]):
            return False
    return True


def asked_by(clean, kinds, ends, fact, symbol):
    """The list of the facts that are asked by one with a symbol next.

    ends: by (rule, first) the ends of the whole facts that there are.
    """
    label, dot, first, behind = fact
    if symbol not in clean.fruits:
        fits = behind < len(kinds) and kinds[behind] == symbol
        return [(label, dot + 1, first, behind + 1)] if fits else []
    begun = [(other, 0, behind, behind) for other in clean.fruits[symbol]]
    return begun + [(label, dot + 1, first, last) for last in ends.get((symbol, behind), [])]


def one_holds(grammar, paper):
    """Whether ("one", lists) holds."""
    if not is_row_of(paper, 2) or not isinstance(paper[1], tuple) or len(paper[1]) == 0:
        return False
    numbers = {name: number for number, (name, _, _) in enumerate(grammar.kinds())}
    for many, rows in enumerate(paper[1]):
        if not is_list_of(grammar, numbers, rows, many):
            return False
    counts = Counts(grammar)
    if counts.has_ring:
        return False
    for rows in paper[1]:
        if counts.next_count() != len(rows):
            return False
    return True


def is_list_of(grammar, numbers, thing, many):
    """Whether a thing is a rising tuple of (row, shape), each row of so many kinds, each shape one for it."""
    if not is_tuple_of_rows(thing, 2):
        return False
    for row, shape in thing:
        if not are_texts(row) or not isinstance(shape, tuple) or len(row) != many:
            return False
        if not is_shape(grammar, shape, row):
            return False
    return are_rising([tuple([numbers[kind] for kind in row]) for row, _ in thing])


class Counts:
    """How many shapes there are, number of words by number of words, reckoned by numbers alone."""

    def __init__(self, grammar):
        self._clean = CleanRows(grammar)
        self._begin = grammar.begin()
        names = self._clean.standing(self._begin)
        steps = self._clean.steps(names)
        # A name is counted behind those to which it comes alone.
        self._order = fallen(names, steps)
        self.has_ring = len(self._order) < len(names)
        # By names how many shapes of 0 words, of 1 word and so on; by labels, place by place, likewise.
        self._counts = {name: [] for name in names}
        self._ways = {label: [[] for _ in self._clean.rows[label]] for name in names
                      for label in self._clean.fruits[name]}

    def next_count(self):
        """How many shapes of the beginning have one word more than those asked for before, at first none."""
        if self._begin not in self._counts:
            return 0
        many = len(self._counts[self._begin])
        for counts in self._counts.values():
            counts.append(0)
        for name in self._order:
            found = [self.ways_to(label, many) for label in self._clean.fruits[name]]
            self._counts[name][many] = sum([ways[-1] for ways in found])
        # Now that all names are counted the ways up to each place of a row are told in full.
        for label, places in self._ways.items():
            for place, ways in zip(places, self.ways_to(label, many)[1:]):
                place.append(ways)
        return self._counts[self._begin][many]

    def ways_to(self, label, many):
        """In how many ways the first symbols of a row, none, one and so on, come to so many words."""
        ways = [1 if many == 0 else 0]
        ahead = [1] + [0] * many
        for symbol, place in zip(self._clean.rows[label], self._ways[label]):
            ways.append(sum([ahead[at] * self.count_at(symbol, many - at) for at in range(many + 1)]))
            ahead = place + [ways[-1]]
        return ways

    def count_at(self, symbol, many):
        """How many shapes of a symbol have so many words."""
        if symbol not in self._clean.fruits:
            return 1 if many == 1 else 0
        return self._counts[symbol][many]
