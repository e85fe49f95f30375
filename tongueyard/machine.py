"""Machines: they read kinds one by one as a table tells."""

from tongueyard.errors import NoPlace, Stop
from tongueyard.grammars import END
from tongueyard.logs import shape_of_nodes


class Machine:
    def __init__(self, table):
        labels, deeds = table
        self._labels = labels
        self._deeds = tuple([{symbol: deed for symbol, deed in one.items()} for one in deeds])
        # Gos stand by names, too; a name is one of which some by puts a node.
        self._names = {deed[3]: True for one in self._deeds for deed in one.values() if deed[0] == "by"}
        self._many = {deed[1]: deed[2] for one in self._deeds for deed in one.values() if deed[0] == "by"}
        self._stand = [0]
        self._log = []
        self._taken = []
        # For each word taken how many states were left, those that went, and how many deeds there were ahead.
        self._undone = []

    def led_by(self, kind):
        """How many states the bys ahead of a kind leave, those put behind them, the labels, and the last deed."""
        left = len(self._stand)
        put = []
        labels = []
        deed = self.deed_at(left, put, kind)
        while deed is not None and deed[0] == "by":
            for _ in range(deed[2]):
                if put:
                    put.pop()
                else:
                    left -= 1
            labels.append(deed[1])
            put.append(self.deed_at(left, put, deed[3])[1])
            deed = self.deed_at(left, put, kind)
        return left, put, labels, deed

    def deed_at(self, left, put, symbol):
        """The deed by a symbol of the last state, some of the stand being left and others put behind."""
        state = put[-1] if put else self._stand[left - 1]
        return self._deeds[state].get(symbol)

    def goes_by(self, kind):
        """Whether a kind can be taken."""
        if kind == END or kind in self._names:
            return False
        deed = self.led_by(kind)[3]
        return deed is not None and deed[0] == "go"

    def feed(self, kind):
        if not self.goes_by(kind):
            raise Stop(len(self._taken), self.may())
        left, put, labels, deed = self.led_by(kind)
        self._undone.append((left, self._stand[left:], len(self._log)))
        self._stand[left:] = put + [deed[1]]
        self._log.extend(labels + [""])
        self._taken.append(kind)

    def may(self):
        kinds = [kind for kind in list(self._deeds[self._stand[-1]]) if self.goes_by(kind)]
        return sorted(kinds + ([END] if self.can_end() else []))

    def can_end(self):
        """Whether the kinds taken are a text."""
        deed = self.led_by(END)[3]
        return deed is not None and deed[0] == "done"

    def whole(self):
        if not self.can_end():
            raise Stop(len(self._taken), self.may())
        nodes = []
        # The pieces that are open: the numbers of nodes, None for words.
        pieces = []
        log = self._log + self.led_by(END)[2]
        for deed in log:
            if deed == "":
                pieces.append(None)
            else:
                ahead = len(pieces) - self._many[deed]
                nodes.append((deed, [node for node in pieces[ahead:] if node is not None]))
                pieces[ahead:] = [len(nodes) - 1]
        return shape_of_nodes(nodes)

    def stand(self):
        return list(self._stand)

    def log(self):
        return list(self._log)

    def taken(self):
        return list(self._taken)

    def back(self, many):
        if not 0 <= many <= len(self._taken):
            raise NoPlace(many)
        while len(self._taken) > many:
            left, gone, logged = self._undone.pop()
            self._stand[left:] = gone
            del self._log[logged:]
            self._taken.pop()

    def twin(self):
        other = Machine((self._labels, self._deeds))
        for kind in self._taken:
            other.feed(kind)
        return other

    def __eq__(self, other):
        return (isinstance(other, Machine) and self._labels == other._labels and self._deeds == other._deeds
                and self._taken == other._taken)

    def __len__(self):
        return len(self._taken)

    def __repr__(self):
        return f"Machine({self._taken!r})"


def run_kinds(table, kinds):
    """The shape of all kinds, as a machine reads them one by one."""
    machine = Machine(table)
    for kind in kinds:
        machine.feed(kind)
    return machine.whole()
