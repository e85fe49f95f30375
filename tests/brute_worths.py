"""Slow and plain answers about worths: trees walked by recursion, choices of relations one by one."""

from itertools import product
from random import Random

from tests.brute_grammars import labels_by_rule, nested, rows_of
from tongueyard.tallies import completed, due_sums

REQUIRED = {
    "join": lambda t, u: (t + u)[:60],
    "shown": str,
    "plus": lambda x, y: min(x + y, 1000000000),
    "times": lambda x, y: min(x * y, 1000000000),
    "less": lambda x, y: x - y if x > y else 0,
    "most": lambda x, y: x if x > y else y,
    "long": len,
    "digits": lambda t: int(t) if len(t) in range(1, 10) and set(t) <= set("0123456789") else 0,
    "many": len,
    "has": lambda s, t: int(t in s),
    "same": lambda x, y: int(x == y),
    "nobody": lambda: (),
    "just": lambda t: (t,),
    "either": lambda s, u: tuple(sorted(set(s) | set(u))[:40]),
    "off": lambda s, u: tuple(sorted(set(s) - set(u))),
    "choose": lambda n, x, y: x if n else y,
}


def plain_worth(expression, at, word):
    """What an expression is worth; at(place, attribute) and word(place) tell what it reads."""
    if expression[0] == "at":
        return at(expression[1], expression[2])
    if expression[0] == "word":
        return word(expression[1])[:60]
    if expression[0] in ("text", "number"):
        return expression[1]
    return REQUIRED[expression[0]](*[plain_worth(part, at, word) for part in expression[1:]])


def reads_of(expression):
    if expression[0] == "at":
        return [expression[1:]]
    if expression[0] in ("word", "text", "number"):
        return []
    return [one for part in expression[1:] for one in reads_of(part)]


class PlainTree:
    """The worths of a tree, each instance reckoned behind those that it reads; None where there is a ring."""

    def __init__(self, grammar, tally, tree, given):
        self.grammar, self.marks, self.given = grammar, tally[0], dict(given)
        self.sums = {one[:3]: one[3] for one in tally[1]}
        self.heads, self.parts, self.homes = [], [], []
        self.words = list(tree[1])
        self.walk(nested(grammar, tree[0], grammar.rule_of(tree[0][0]))[0], None, 0)
        self.rows, self.open = {}, []
        self.has_ring = False
        for node in range(len(self.heads)):
            for attribute, way, _, names in self.marks:
                if grammar.rule_of(self.heads[node]) in names:
                    self.reckon((node, attribute))

    def walk(self, tree, above, place):
        number = len(self.heads)
        self.heads.append(tree[0])
        self.parts.append([])
        self.homes.append((above, place))
        for at, part in enumerate(tree[1], 1):
            if isinstance(part, str):
                self.parts[number].append(self.words.pop(0)[1])
            else:
                self.parts[number].append(len(self.heads))
                self.walk(part, number, at)

    def sum_of(self, instance):
        """(node, expression) by which an instance is reckoned, None of a down of the top."""
        node, attribute = instance
        if [way for name, way, _, _ in self.marks if name == attribute] == ["up"]:
            return node, self.sums[(self.heads[node], 0, attribute)]
        above, place = self.homes[node]
        return None if above is None else (above, self.sums[(self.heads[above], place, attribute)])

    def spot(self, node, place, attribute):
        return (node if place == 0 else self.parts[node][place - 1], attribute)

    def reckon(self, instance):
        if instance in self.rows or self.has_ring:
            return
        if instance in self.open:
            self.has_ring = True
            return
        found = self.sum_of(instance)
        if found is None:
            self.rows[instance] = self.given[instance[1]]
            return
        node, expression = found
        self.open.append(instance)
        for place, attribute in reads_of(expression):
            self.reckon(self.spot(node, place, attribute))
        self.open.pop()
        if not self.has_ring:
            self.rows[instance] = plain_worth(expression, lambda place, name: self.rows[self.spot(node, place, name)],
                                              lambda place: self.parts[node][place - 1])


class PlainOrders:
    """Relations of rules, and what hangs on what by choices of them."""

    def __init__(self, grammar, tally):
        self.rows, self.labels = rows_of(grammar), labels_by_rule(grammar)
        self.homes = {label: name for name in self.labels for label in self.labels[name]}
        self.marks = tally[0]
        self.sums = {one[:3]: reads_of(one[3]) for one in tally[1]}

    def borne(self, name, way):
        return [attribute for attribute, other, _, names in self.marks if other == way and name in names]

    def occurrences(self, label):
        spots = [(0, self.homes[label])] + [(at, name) for at, name in enumerate(self.rows[label], 1) if name in self.labels]
        return [(at, attribute) for at, name in spots for way in ("up", "down") for attribute in self.borne(name, way)]

    def edges(self, label, choice):
        """All (one, other) where one hangs on the other straight."""
        found = [((place, attribute), read) for (one, place, attribute), reads in self.sums.items() if one == label
                 for read in reads]
        places = [at for at, name in enumerate(self.rows[label], 1) if name in self.labels]
        return found + [((at, up), (at, down)) for at, relation in zip(places, choice) for down, up in relation]

    def behind(self, label, choice):
        """All (one, other) where one hangs on the other in one step or more."""
        found = set(self.edges(label, choice))
        many = -1
        while len(found) > many:
            many = len(found)
            found |= {(one, last) for one, middle in found for other, last in found if middle == other}
        return found

    def comes_of(self, label, choice):
        name = self.homes[label]
        return tuple(sorted((down, up) for down in self.borne(name, "down") for up in self.borne(name, "up")
                            if ((0, up), (0, down)) in self.behind(label, choice)))

    def ring(self, label, choice):
        return [one for one, other in sorted(self.behind(label, choice)) if one == other]

    def all_rows(self):
        """All (label, parts, relation) that trees make, each rule and relation once, and all (label, choice)."""
        made, grown = [], True
        while grown:
            grown = False
            for label, row in self.rows.items():
                names = [name for name in row if name in self.labels]
                numbers = [[at for at, (other, _, _) in enumerate(made) if self.homes[other] == name] for name in names]
                for parts in product(*numbers):
                    relation = self.comes_of(label, [made[part][2] for part in parts])
                    if all((self.homes[label], relation) != (self.homes[other], old) for other, _, old in made):
                        made.append((label, parts, relation))
                        grown = True
        choices = []
        for label, row in self.rows.items():
            relations = [[old for other, _, old in made if self.homes[other] == name] for name in row if name in self.labels]
            choices += [(label, choice) for choice in product(*relations)]
        return made, choices

    def order(self, label, choice):
        """All occurrences, each behind those on which it hangs; None where there is a ring."""
        left, found = self.occurrences(label), []
        edges = self.edges(label, choice)
        while left:
            free = [one for one in left if all(other not in left for head, other in edges if head == one)]
            if not free:
                return None
            found.append(free[0])
            left.remove(free[0])
        return tuple(found)

    def circle(self, label, choice):
        """Occurrences that go round, each hanging on the next one."""
        edges = self.edges(label, choice)
        start = self.ring(label, choice)[0]
        paths = [(start,)]
        while True:
            path = paths.pop(0)
            for one, other in edges:
                if one == path[-1] and other == start:
                    return path
                if one == path[-1] and other not in path:
                    paths.append(path + (other,))

    def paper(self, tally):
        made, choices = self.all_rows()
        for label, choice in choices:
            if self.ring(label, choice):
                numbers = {(self.homes[other], relation): at for at, (other, _, relation) in enumerate(made)}
                names = [name for name in self.rows[label] if name in self.labels]
                parts = tuple(numbers[(name, one)] for name, one in zip(names, choice))
                return ("round", tally, tuple((other, inner) for other, inner, _ in made) + ((label, parts),),
                        self.circle(label, choice))
        return "orders", tally, tuple((label, choice, self.order(label, choice)) for label, choice in choices)


def some_tallies(grammar, seed, many):
    """Tallies of a grammar by chance: numbers alone, their sums reading what they may."""
    chance = Random(seed)
    names = [name for name, _ in grammar.rules()]
    found = []
    while len(found) < many:
        marks = []
        for attribute, way in (("m", "up"), ("n", "down"), ("u", "up"), ("v", "down"))[:chance.randint(1, 4)]:
            marks.append((attribute, way, "number", tuple(sorted(chance.sample(names, chance.randint(1, len(names)))))))
        ways = {attribute: way for attribute, way, _, _ in marks}
        sums = []
        for label, place, attribute in due_sums(grammar, marks):
            own, row = grammar.rule_of(label), grammar.row_of(label)
            reads = [("at", 0, name) for name, way, _, rules in marks if way == "down" and own in rules]
            reads += [("at", at, name) for at, symbol in enumerate(row, 1) for name, way, _, rules in marks
                      if way == "up" and symbol in rules]
            words = [("long", ("word", at)) for at, symbol in enumerate(row, 1) if symbol not in names]
            expression = ("number", chance.randint(0, 9))
            for _ in range(chance.choice([0, 1, 1, 2])):
                read = chance.choice(reads + words + [("number", 3)])
                expression = chance.choice([("plus", expression, read), ("less", read, expression),
                                            ("choose", expression, read, ("number", 5))])
            sums.append((label, place, attribute, expression))
        assert set(ways.values()) <= {"up", "down"}
        found.append(completed(grammar, marks, sums))
    return found


