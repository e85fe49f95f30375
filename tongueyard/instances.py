"""Instances of trees, (node, attribute): on which ones each hangs, and what they are worth."""

from tongueyard.errors import NoGiven, RoundWorths
from tongueyard.reckoning import read_by, worth_of
from tongueyard.sorts import is_worth

PLAIN_WORDS = ("at", "word", "text", "number")


class Instances:
    """The instances of a tree (top, nodes), nodes a dict from numbers to (label, parts).

    order: the list of all, by the tree's order of nodes and at each node in the order of the marks.
    """

    def __init__(self, grammar, tally, tree):
        self.top, self._nodes = tree
        self._ways = {attribute: way for attribute, way, _, _ in tally[0]}
        self._sums = {one[:3]: one[3] for one in tally[1]}
        borne = {name: [mark[0] for mark in tally[0] if name in mark[3]] for name, _ in grammar.rules()}
        self.order = []
        # Of each node the one above it and its place there; of each word, by that and its place, its number.
        self._homes = {}
        self._words = {}
        due = [(self.top, None, 0)]
        while due:
            part, above, place = due.pop()
            if isinstance(part, tuple):
                self._words[(above, place)] = len(self._words)
                continue
            label, parts = self._nodes[part]
            self._homes[part] = (above, place)
            self.order.extend([(part, attribute) for attribute in borne[grammar.rule_of(label)]])
            due.extend([(parts[at], part, at + 1) for at in range(len(parts) - 1, -1, -1)])

    def is_given(self, instance):
        """Whether an instance is a down of the top."""
        return instance[0] == self.top and self._ways[instance[1]] == "down"

    def sum_of(self, instance):
        """The node by whose sum an instance is reckoned, no down of the top, and the sum's expression."""
        node, attribute = instance
        place = 0
        if self._ways[attribute] == "down":
            node, place = self._homes[node]
        return node, self._sums[(self._nodes[node][0], place, attribute)]

    def spot(self, node, place, attribute):
        """The instance that a sum of a node reads at a place."""
        return (node if place == 0 else self._nodes[node][1][place - 1], attribute)

    def reads(self, instance):
        """The list of the instances on which one hangs straight."""
        if self.is_given(instance):
            return []
        node, expression = self.sum_of(instance)
        return [self.spot(node, place, attribute) for place, attribute in read_by(expression)]

    def words_read(self, instance):
        """The list of the numbers of the words that an instance's sum reads."""
        if self.is_given(instance):
            return []
        node, expression = self.sum_of(instance)
        return [self._words[(node, place)] for place in word_places(expression)]

    def made_of(self, instance, given):
        """What an instance is made of: two alike are reckoned alike where what they read is worth the same."""
        if self.is_given(instance):
            return (given[instance[1]],)
        node, expression = self.sum_of(instance)
        texts = [self._nodes[node][1][place - 1][1] for place in word_places(expression)]
        return expression, self.reads(instance), texts

    def reckoned(self, instance, found):
        """What an instance is worth, which is no down of the top, by the worths found of what it reads."""
        node, expression = self.sum_of(instance)
        known = {(place, attribute): found[self.spot(node, place, attribute)]
                 for place, attribute in read_by(expression)}
        texts = {place: self._nodes[node][1][place - 1][1] for place in word_places(expression)}
        return worth_of(expression, known, texts)


class Reckoned:
    """All worths of a tree: found, by instances; makings: what each is made of; links: the list
    of those on which it hangs straight; anew: those reckoned anew.

    What was made alike, and read the same, keeps the worth that it had ahead: old_makings and old_found tell of that.
    """

    def __init__(self, grammar, tally, tree, given, old_makings, old_found):
        self.instances = Instances(grammar, tally, tree)
        need_given(tally[0], grammar.rule_of(tree[1][tree[0]][0]), given)
        self.links = {one: self.instances.reads(one) for one in self.instances.order}
        worths_given = {attribute: worth for attribute, worth in given}
        self.found = {}
        self.makings = {}
        changed = {}
        order = behind_order(self.instances.order, self.links)
        for one in order:
            self.makings[one] = self.instances.made_of(one, worths_given)
            is_old = one in old_makings and old_makings[one] == self.makings[one]
            if is_old and not [1 for other in self.links[one] if old_found[other] != self.found[other]]:
                self.found[one] = old_found[one]
            else:
                changed[one] = True
                is_given = self.instances.is_given(one)
                self.found[one] = worths_given[one[1]] if is_given else self.instances.reckoned(one, self.found)
        self.anew = [one for one in self.instances.order if one in changed]

    def rows_told(self):
        """The list of (node, attribute, worth), in order."""
        return [(node, attribute, self.found[(node, attribute)]) for node, attribute in self.instances.order]


def reckoned_tree(grammar, tally, tree, given):
    """All worths of a tree, with nothing known ahead."""
    return Reckoned(grammar, tally, tree, given, {}, {})


def need_given(marks, name, given):
    """Refuses what gives other worths than those of the downs of a tree's top, which is of a rule."""
    for attribute, way, sort, names in marks:
        told = [worth for other, worth in given if other == attribute]
        due = 1 if way == "down" and name in names else 0
        if len(told) != due or not all([is_worth(sort, worth) for worth in told]):
            raise NoGiven(attribute)
    attributes = [mark[0] for mark in marks]
    for attribute, _ in given:
        if attribute not in attributes:
            raise NoGiven(attribute)


def behind_order(starts, hung):
    """All on which some hang, and these, each behind all on which it hangs; refuses a ring.

    hung: of each the list of those on which it hangs straight.
    """
    is_done = {}
    order = []
    for start in starts:
        path = [start] if start not in is_done else []
        # How many of those on which each one of the path hangs were gone to.
        gone = [0]
        while path:
            one = path[-1]
            is_done.setdefault(one, False)
            if gone[-1] == len(hung[one]):
                is_done[one] = True
                order.append(path.pop())
                gone.pop()
                continue
            other = hung[one][gone[-1]]
            gone[-1] += 1
            if other not in is_done:
                path.append(other)
                gone.append(0)
            elif not is_done[other]:
                raise RoundWorths(path[path.index(other):])
    return order


def word_places(expression):
    """The list of the places of the words that an expression reads, each once."""
    if expression[0] == "word":
        return [expression[1]]
    found = {}
    if expression[0] not in PLAIN_WORDS:
        for part in expression[1:]:
            for place in word_places(part):
                found[place] = True
    return list(found)
