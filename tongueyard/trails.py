"""Shapes whose run by states comes to a told item, with a told kind next."""

from tongueyard.grammars import END
from tongueyard.known import heads_of


class Trails:
    """How items are come to from the whole at the beginning of state 0, each with one member of its ahead.

    A spot is (state, label's number, dot, end), end being the kind, or END, behind the item's label.
    """

    def __init__(self, items, gos):
        self._items = items
        self._gos = gos
        start = (0, 0, 0, END)
        self._came = {start: None} if items.started() else {}
        due = list(self._came)
        done = 0
        while done < len(due):
            spots = self.led_from(due[done])
            for spot in spots:
                if spot not in self._came:
                    self._came[spot] = due[done]
                    due.append(spot)
            done += 1

    def led_from(self, spot):
        """The list of the spots to which one leads straight."""
        state, number, dot, end = spot
        symbol = self._items.next_of((number, dot))
        if symbol is None:
            return []
        found = []
        if symbol in self._gos[state]:
            found.append((self._gos[state][symbol], number, dot + 1, end))
        ends = self._items.ahead_of(self._items.led_ahead((number, dot), self._items.mask_of([end])))
        numbers = self._items.numbers_of(symbol)
        return found + [(state, inner, 0, one) for inner in numbers for one in ends]

    def shape_to(self, spot):
        """A shape of the beginning in which a spot is come to, its end next behind the label."""
        number = spot[1]
        shape = self.head_of(number) + self._items.clean.least_of(self._items.rows[number])
        while spot is not None:
            ahead = self._came[spot]
            if ahead is not None and spot[2] == 0:
                shape = self.put_within(ahead, shape, spot[3])
            spot = ahead
        return shape

    def put_within(self, spot, inner, end):
        """The labels of a spot's node, those of its next symbol being told, and an end coming next behind these."""
        _, number, dot, _ = spot
        clean = self._items.clean
        row = self._items.rows[number]
        shape = self.head_of(number) + clean.least_of(row[:dot]) + inner
        rest = row[dot + 1:]
        for at, kind, labels in heads_of(clean, self._items.firsts, rest):
            if kind == end:
                return shape + clean.least_with(rest, at, labels)
        # What is behind comes to no words then, and the end is that of the node.
        return shape + clean.least_of(rest)

    def head_of(self, number):
        """The label with a number, of the whole none."""
        return () if number == 0 else (self._items.heads[number],)
