"""Reading rows of kinds by tables of merged states, made the slow and plain way, to test texts of grammars by."""


class Clash(Exception):
    pass


class Table:
    """The merged states of a grammar without bars and without barren rules; Clash where some state asks two deeds."""

    def __init__(self, grammar):
        self.rules = dict(grammar.rules())
        self.rows = {label: row for _, alternatives in grammar.rules() for label, row in alternatives}
        self.rows["."] = (grammar.begin(),)
        self.homes = {label: name for name, alternatives in grammar.rules() for label, _ in alternatives}
        self.heads = self.find_heads()
        self.states, self.goes = self.merged()
        self.deeds = [self.deeds_of(number) for number in range(len(self.states))]

    def find_heads(self):
        """For each rule the kinds with which it can begin, and "" where it can be empty."""
        heads = {name: set() for name in self.rules}
        grown = True
        while grown:
            grown = False
            for name, alternatives in self.rules.items():
                for _, row in alternatives:
                    found = self.heads_of(row, {""}, heads)
                    grown = grown or not found <= heads[name]
                    heads[name] |= found
        return heads

    def heads_of(self, row, ahead, heads):
        found = set()
        for symbol in row:
            if symbol not in self.rules:
                return found | {symbol}
            found |= heads[symbol] - {""}
            if "" not in heads[symbol]:
                return found
        return found | ahead

    def closed(self, items):
        items, open_ones = set(items), list(items)
        while open_ones:
            label, dot, ahead = open_ones.pop()
            row = self.rows[label]
            if dot < len(row) and row[dot] in self.rules:
                for other, _ in self.rules[row[dot]]:
                    for kind in self.heads_of(row[dot + 1:], {ahead}, self.heads):
                        if (other, 0, kind) not in items:
                            items.add((other, 0, kind))
                            open_ones.append((other, 0, kind))
        return frozenset(items)

    def merged(self):
        start = self.closed({(".", 0, ".")})
        states, goes, numbers, at = [start], [], {start: 0}, 0
        while at < len(states):
            moved = {}
            for label, dot, ahead in states[at]:
                if dot < len(self.rows[label]):
                    moved.setdefault(self.rows[label][dot], set()).add((label, dot + 1, ahead))
            goes.append({})
            for symbol, items in sorted(moved.items()):
                items = self.closed(items)
                if items not in numbers:
                    numbers[items] = len(states)
                    states.append(items)
                goes[at][symbol] = numbers[items]
            at += 1
        cores = [frozenset(item[:2] for item in state) for state in states]
        first = [cores.index(core) for core in cores]
        kept = sorted(set(first))
        whole = [set().union(*(states[k] for k in range(len(states)) if first[k] == one)) for one in kept]
        return whole, [{symbol: kept.index(first[to]) for symbol, to in goes[one].items()} for one in kept]

    def deeds_of(self, number):
        deeds = {symbol: ("go", to) for symbol, to in self.goes[number].items()}
        for label, dot, ahead in sorted(self.states[number]):
            if dot == len(self.rows[label]):
                if deeds.setdefault(ahead, ("by", label)) != ("by", label):
                    raise Clash(number, ahead)
        return deeds

    def tree(self, words):
        """The tree of a list of words (kind, text), a part a word or such a tree (label, parts); None where none."""
        stand, parts = [0], []
        for word in words + [(".", "")]:
            while True:
                deed = self.deeds[stand[-1]].get(word[0])
                if deed is None:
                    return None
                if deed[0] == "go":
                    stand.append(deed[1])
                    parts.append(word)
                    break
                label, many = deed[1], len(self.rows[deed[1]])
                if label == ".":
                    return parts[0]
                made = (label, parts[len(parts) - many:])
                del parts[len(parts) - many:], stand[len(stand) - many:]
                parts.append(made)
                stand.append(self.deeds[stand[-1]][self.homes[label]][1])
