"""Slow and plain answers about states and tables: closings by trying all again, one state after the other."""

from tests.brute_grammars import labels_by_rule, rows_of
from tests.brute_reading import clean_labels, rows_by_name
from tongueyard.grammars import END


class Plain:
    """What symbols begin with, closings and states of a grammar, items being (label, dot, one of the ahead)."""

    def __init__(self, grammar):
        self.rows, self.names, self.clean = rows_of(grammar), labels_by_rule(grammar), clean_labels(grammar)
        self.begin = grammar.begin()
        self.ends = [name for name, _, _ in grammar.kinds()] + [END]
        self.symbols = self.ends + [name for name, _ in grammar.rules()]
        self.labels = [END] + list(self.rows)
        self.empty = {name for name, rows in rows_by_name(grammar, 0).items() if rows}
        self.firsts = {name: set() for name in self.names}
        many = -1
        while sum(map(len, self.firsts.values())) > many:
            many = sum(map(len, self.firsts.values()))
            for name in self.names:
                for label in self.clean[name]:
                    self.firsts[name] |= self.begins(self.rows[label], ())

    def begins(self, symbols, ahead):
        found = set()
        for symbol in symbols:
            if symbol in self.names and not self.clean[symbol]:
                return found
            found |= self.firsts.get(symbol, {symbol})
            if symbol not in self.empty:
                return found
        return found | set(ahead)

    def row(self, label):
        return (self.begin,) if label == END else self.rows[label]

    def next(self, label, dot):
        return self.row(label)[dot] if dot < len(self.row(label)) else None

    def home(self, label):
        return [name for name, labels in self.names.items() if label in labels][0]

    def closed(self, items):
        found = set(items)
        due = list(found)
        while due:
            label, dot, end = due.pop()
            name = self.next(label, dot)
            for other in self.clean.get(name, []):
                for one in self.begins(self.row(label)[dot + 1:], (end,)):
                    if (other, 0, one) not in found:
                        found.add((other, 0, one))
                        due.append((other, 0, one))
        return frozenset(found)

    def start(self):
        return self.closed([(END, 0, END)] if self.clean[self.begin] else [])

    def go(self, state, symbol):
        return self.closed([(label, dot + 1, end) for label, dot, end in state if self.next(label, dot) == symbol])

    def gos(self, state):
        return [symbol for symbol in self.symbols if any(self.next(label, dot) == symbol for label, dot, _ in state)]

    def found(self, most):
        """The split states as they are found and their gos; None where there are more than so many."""
        states, led = [self.start()], []
        while len(led) < len(states):
            led.append({})
            for symbol in self.gos(states[len(led) - 1]):
                to = self.go(states[len(led) - 1], symbol)
                if to not in states:
                    states.append(to)
                led[-1][symbol] = states.index(to)
            if len(states) > most:
                return None
        return states, led

    def merged(self, states, led):
        """The merged states as they are found, and their gos, of all split ones."""
        cores = [frozenset(item[:2] for item in state) for state in states]
        order, gos = [cores[0]], []
        while len(gos) < len(order):
            core = order[len(gos)]
            gos.append({})
            for symbol, to in led[cores.index(core)].items():
                if cores[to] not in order:
                    order.append(cores[to])
                gos[-1][symbol] = order.index(cores[to])
        return [frozenset().union(*[state for state, one in zip(states, cores) if one == core]) for core in order], gos

    def told(self, state):
        """A state as it is told."""
        spots = sorted({item[:2] for item in state}, key=lambda spot: (self.labels.index(spot[0]), spot[1]))
        return tuple((label, dot, tuple(sorted(end for one, at, end in state if (one, at) == (label, dot))))
                     for label, dot in spots)

    def deeds(self, state, gos):
        """By symbols all deeds that a state asks."""
        asked = {}
        for label, dot, end in state:
            symbol = self.next(label, dot)
            if symbol is not None:
                asked.setdefault(symbol, set()).add(("go", gos[symbol]))
            elif label == END:
                asked.setdefault(end, set()).add(("done",))
            else:
                asked.setdefault(end, set()).add(("by", label, dot, self.home(label)))
        return asked

    def clashes(self, states, led):
        return [number for number, state in enumerate(states)
                if any(len(deeds) > 1 for deeds in self.deeds(state, led[number]).values())]

    def table(self, states, led):
        deeds = [{symbol: list(one)[0] for symbol, one in self.deeds(state, gos).items()}
                 for state, gos in zip(states, led)]
        return tuple(self.told(state) for state in states), tuple(deeds)


def slow_table(grammar, limit, most=400):
    """("table", table), ("many",) or ("clash",); None where there are too many split states to look at."""
    plain = Plain(grammar)
    found = plain.found(most)
    if found is None:
        return None
    states, led = found
    merged, gos = plain.merged(states, led)
    if len(merged) > limit:
        return ("many",)
    if not plain.clashes(merged, gos):
        return "table", plain.table(merged, gos)
    clashes = plain.clashes(states, led)
    if clashes and clashes[0] < limit:
        return ("clash",)
    return ("many",) if len(states) > limit else ("table", plain.table(states, led))


def plain_holds(grammar, table):
    """Whether a table, right in its form, holds: (a) to (g), one by one."""
    plain = Plain(grammar)
    labels, deeds = table
    states = [{item[:2]: set(item[2]) for item in state} for state in labels]
    barren = not plain.clean[plain.begin]
    rules = [
        (not labels[0]) if barren else (END, 0, (END,)) in labels[0],
        all((END, 0) not in state for state in states[1:]),
        all(deed[0] != "go" or 0 < deed[1] < len(states) for one in deeds for deed in one.values()),
        all(ahead == {END} for state in states for (label, _), ahead in state.items() if label == END),
    ]
    if not all(rules):
        return False
    for number, state in enumerate(states):
        asked = {}
        for (label, dot), ahead in state.items():
            symbol = plain.next(label, dot)
            if symbol is None:
                for end in ahead:
                    asked.setdefault(end, []).append(("done",) if label == END else ("by", label, dot, plain.home(label)))
                continue
            asked.setdefault(symbol, []).append("go")
            for other in plain.clean.get(symbol, []):
                if not plain.begins(plain.row(label)[dot + 1:], ahead) <= state.get((other, 0), {None}):
                    return False
                if (other, 0) not in state:
                    return False
            deed = deeds[number].get(symbol, ("done",))
            if deed[0] != "go" or not ahead <= states[deed[1]].get((label, dot + 1), set()):
                return False
            if (label, dot + 1) not in states[deed[1]]:
                return False
        if set(asked) != set(deeds[number]):
            return False
        for symbol, ones in asked.items():
            deed = deeds[number][symbol]
            if any(one != deed and not (one == "go" and deed[0] == "go") for one in ones):
                return False
        if not is_rooted(plain, state) or not passed_right(plain, states, state, deeds[number]):
            return False
    return True


def is_rooted(plain, state):
    met = {item for item in state if item[1] > 0 or item[0] == END}
    many = -1
    while len(met) > many:
        many = len(met)
        names = {plain.next(label, dot) for label, dot in met}
        met |= {(label, dot) for label, dot in state if dot == 0 and label != END and plain.home(label) in names}
    return met == set(state)


def passed_right(plain, states, state, deeds):
    for symbol, deed in deeds.items():
        if deed[0] == "go":
            for label, dot in states[deed[1]]:
                if dot > 0 and ((label, dot - 1) not in state or plain.next(label, dot - 1) != symbol):
                    return False
    return True


def called_by(table, order):
    """The table with the state order[k] called k."""
    place = {state: number for number, state in enumerate(order)}
    deeds = [{symbol: ("go", place[deed[1]]) if deed[0] == "go" else deed for symbol, deed in table[1][state].items()}
             for state in order]
    return tuple(table[0][state] for state in order), tuple(deeds)


def plain_run(table, kinds):
    """("shape", log), or ("stop", at), by a run step by step; the log as (deeds)."""
    deeds = table[1]
    stand, log = [0], []
    for at, kind in enumerate(list(kinds) + [END]):
        while True:
            deed = deeds[stand[-1]].get(kind)
            if deed is None:
                return "stop", at
            if deed[0] == "done":
                return "log", log
            if deed[0] == "go":
                stand.append(deed[1])
                log.append("")
                break
            del stand[len(stand) - deed[2]:]
            stand.append(deeds[stand[-1]][deed[3]][1])
            log.append(deed[1])
