"""The judge of papers of worths: worths of a tree, orders that show that no tree has a ring, and rings."""

from tongueyard.errors import NoTree
from tongueyard.judge_rows import CleanRows, are_rising, is_number_to, is_tuple_of_rows
from tongueyard.reckoning import read_by, worth_of
from tongueyard.sorts import is_worth
from tongueyard.tallies import Borne, is_tally
from tongueyard.things import is_row_of, is_whole
from tongueyard.trees import need_whole_tree


def worths_hold(grammar, paper):
    """Whether a tuple that begins with "worth", "orders" or "round" is a paper that holds."""
    if len(paper) < 2 or not is_tally(grammar, paper[1]):
        return False
    if paper[0] == "worth":
        return len(paper) == 5 and worth_holds(grammar, paper[1], paper[2], paper[3], paper[4])
    if len(grammar.bars()) > 0:
        return False
    judged = JudgedOrders(grammar, paper[1])
    if paper[0] == "orders":
        return len(paper) == 3 and judged.orders_hold(paper[2])
    return paper[0] == "round" and len(paper) == 4 and judged.round_holds(paper[2], paper[3])


def worth_holds(grammar, tally, tree, given, rows):
    """Whether rows tell worths of a tree, each by those ahead of it."""
    try:
        walk = need_whole_tree(grammar, tree)
    except NoTree:
        return False
    judged = JudgedWorths(grammar, tally, walk, tree[1])
    if not judged.are_given(given) or not is_tuple_of_rows(rows, 3) or len(rows) == 0:
        return False
    for row in rows:
        if not judged.takes(row):
            return False
    return True


class JudgedWorths:
    """The worths of a tree that were let by so far."""

    def __init__(self, grammar, tally, walk, words):
        self._grammar = grammar
        self._walk = walk
        self._words = words
        self._borne = Borne(grammar, tally[0])
        self._sums = {one[:3]: one[3] for one in tally[1]}
        self._given = {}
        self._worths = {}

    def rule_at(self, node):
        return self._grammar.rule_of(self._walk.heads[node])

    def are_given(self, given):
        """Whether a thing gives each down of the top just one worth of its sort, and nothing else one."""
        if not is_tuple_of_rows(given, 2):
            return False
        downs = self._borne.downs[self.rule_at(0)]
        for attribute, worth in given:
            if not isinstance(attribute, str) or attribute not in downs or attribute in self._given:
                return False
            if not is_worth(self._borne.sorts[attribute], worth):
                return False
            self._given[attribute] = worth
        return len(self._given) == len(downs)

    def takes(self, row):
        """Whether a row tells an instance that was not told yet, with the worth that is due; takes it then."""
        node, attribute, worth = row
        if not is_number_to(node, len(self._walk.heads) - 1) or not isinstance(attribute, str):
            return False
        name = self.rule_at(node)
        is_down = attribute in self._borne.downs[name]
        if not is_down and attribute not in self._borne.ups[name]:
            return False
        if (node, attribute) in self._worths or not is_worth(self._borne.sorts[attribute], worth):
            return False
        if not self.is_owed(node, attribute, is_down, worth):
            return False
        self._worths[(node, attribute)] = worth
        return True

    def is_owed(self, node, attribute, is_down, worth):
        """Whether an instance has a worth, by those that were let by so far."""
        above, place, _, _, _ = self._walk.nodes[node]
        if is_down and above is None:
            return worth == self._given[attribute]
        home = above if is_down else node
        expression = self._sums[(self._walk.heads[home], place if is_down else 0, attribute)]
        parts = self._walk.parts[home]
        worths = {}
        for at, read in read_by(expression):
            instance = (home if at == 0 else parts[at - 1][1], read)
            if instance not in self._worths:
                return False
            worths[(at, read)] = self._worths[instance]
        words = {at + 1: self._words[number][1] for at, (sort, number) in enumerate(parts) if sort == "word"}
        return worth == worth_of(expression, worths, words)


class JudgedOrders:
    """On what the occurrences of labels hang, relations of the rules in their rows being chosen."""

    def __init__(self, grammar, tally):
        self._grammar = grammar
        self._borne = Borne(grammar, tally[0])
        self._reads = {one[:3]: read_by(one[3]) for one in tally[1]}

    def names_in(self, label):
        """The list of (place, rule) of the rules in a label's row."""
        return [(at + 1, symbol) for at, symbol in enumerate(self._grammar.row_of(label)) if symbol in self._borne.ups]

    def occurrences(self, label):
        """The list of all (place, attribute) of a label."""
        found = []
        for place, name in [(0, self._grammar.rule_of(label))] + self.names_in(label):
            found.extend([(place, attribute) for attribute in self._borne.ups[name] + self._borne.downs[name]])
        return found

    def hung(self, label, choice):
        """For each occurrence of a label the list of those on which it hangs by a choice."""
        hung = {one: list(self._reads.get((label, one[0], one[1]), [])) for one in self.occurrences(label)}
        for (place, _), relation in zip(self.names_in(label), choice):
            for down, up in relation:
                hung[(place, up)].append((place, down))
        return hung

    def comes_of(self, label, choice):
        """The relation that comes of a choice for a label."""
        hung = self.hung(label, choice)
        name = self._grammar.rule_of(label)
        found = []
        for up in self._borne.ups[name]:
            met = all_behind(hung, (0, up))
            found.extend([(down, up) for down in self._borne.downs[name] if (0, down) in met])
        return tuple(sorted(found))

    def orders_hold(self, rows):
        """Whether rows have each choice for each clean label, each with an order."""
        if not is_tuple_of_rows(rows, 3):
            return False
        clean = CleanRows(self._grammar)
        relations = {name: {} for name in clean.fruits}
        choices = {label: {} for label in clean.rows}
        for label, choice, order in rows:
            if not isinstance(label, str) or label not in clean.rows or not self.is_choice(label, choice):
                return False
            if not self.is_order(order, self.hung(label, choice)):
                return False
            choices[label][choice] = True
            relations[clean.homes[label]][self.comes_of(label, choice)] = True
        return all([self.has_each(label, choices[label], relations) for label in clean.rows])

    def has_each(self, label, choices, relations):
        """Whether among some choices for a label each one of the rules' relations is."""
        names = [name for _, name in self.names_in(label)]
        many = 1
        for name in names:
            many = many * len(relations[name])
        made = [choice for choice in choices
                if all([one in relations[name] for name, one in zip(names, choice)])]
        return len(made) == many

    def is_choice(self, label, thing):
        """Whether a thing is a tuple of relations of the rules in a label's row."""
        names = self.names_in(label)
        if not is_row_of(thing, len(names)):
            return False
        return all([self.is_relation(name, one) for (_, name), one in zip(names, thing)])

    def is_relation(self, name, thing):
        """Whether a thing is a rising tuple of pairs of a down and an up of a rule."""
        if not is_tuple_of_rows(thing, 2):
            return False
        for down, up in thing:
            if not isinstance(down, str) or not isinstance(up, str):
                return False
            if down not in self._borne.downs[name] or up not in self._borne.ups[name]:
                return False
        return are_rising(thing)

    def is_order(self, thing, hung):
        """Whether a thing is a tuple of all occurrences, each once, behind all on which it hangs."""
        if not self.are_unlike(thing, hung) or len(thing) != len(hung):
            return False
        places = {one: place for place, one in enumerate(thing)}
        return all([places[other] < places[one] for one in thing for other in hung[one]])

    def are_unlike(self, thing, hung):
        """Whether a thing is a tuple of occurrences, none twice."""
        if not is_tuple_of_rows(thing, 2):
            return False
        for place, attribute in thing:
            if not is_whole(place) or not isinstance(attribute, str):
                return False
        return all([one in hung for one in thing]) and len(set(thing)) == len(thing)

    def round_holds(self, rows, circle):
        """Whether rows make a tree, in whose top node occurrences go round."""
        if not is_tuple_of_rows(rows, 2) or len(rows) == 0:
            return False
        relations = []
        for label, parts in rows:
            choice = self.choice_of(label, parts, rows, relations)
            if choice is None:
                return False
            relations.append(self.comes_of(label, choice))
        hung = self.hung(rows[-1][0], choice)
        if not self.are_unlike(circle, hung) or len(circle) == 0:
            return False
        return all([circle[at] in hung[circle[at - 1]] for at in range(len(circle))])

    def choice_of(self, label, parts, rows, relations):
        """The relations of a row's parts, which stand ahead of it; None where label or parts are not right."""
        if not self._grammar.is_label(label) or not isinstance(parts, tuple):
            return None
        if not all([is_number_to(part, len(relations) - 1) for part in parts]):
            return None
        names = [name for _, name in self.names_in(label)]
        if names != [self._grammar.rule_of(rows[part][0]) for part in parts]:
            return None
        return tuple([relations[part] for part in parts])


def all_behind(hung, one):
    """A dict of all on which an occurrence hangs, in one step or more."""
    met = {}
    due = [one]
    while due:
        behind = hung[due.pop()]
        for other in behind:
            if other not in met:
                met[other] = True
                due.append(other)
    return met
