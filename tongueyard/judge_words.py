"""The judge of word papers. It reckons what it needs by itself and knows none of those who make them."""

from tongueyard.patterns import SIGNS
from tongueyard.things import is_row_of, is_whole


class LaidKinds:
    """The places of kinds, numbered from 1 on, kind by kind, left to right; 0 is the beginning.

    signs: the text of each place; behind: for each place a dict of those that may stand behind it;
    ended: for the places behind which a kind may end that kind.
    """

    def __init__(self, kinds):
        self.signs = [""]
        self.behind = [{}]
        self.ended = {}
        for name, pattern, _ in kinds:
            _, lasts = self.lay(pattern, len(self.signs), [0])
            for last in lasts:
                self.ended[last] = name

    def lay(self, pattern, number, ahead):
        """Lays the places of a pattern from a number on, behind all of some places.

        Tells the number behind its last place, and all places that may be the last ones at its end.
        """
        word = pattern[0]
        if word == "signs":
            return number + 1, self.lay_signs(pattern[1], number, ahead)
        if word == "empty":
            return number, ahead
        middle, lasts = self.lay(pattern[1], number, ahead)
        if word == "then":
            return self.lay(pattern[2], middle, lasts)
        if word == "or":
            behind, others = self.lay(pattern[2], middle, ahead)
            return behind, put_together(lasts, others)
        if word != "maybe":
            # Gone over once more from its own ends, the part may stand behind itself.
            self.lay(pattern[1], number, lasts)
        return middle, lasts if word == "more" else put_together(ahead, lasts)

    def lay_signs(self, signs, number, ahead):
        if number == len(self.signs):
            self.signs.append(signs)
            self.behind.append({})
        for place in ahead:
            self.behind[place][number] = True
        return [number]

    def led(self, places):
        """A dict from the signs that may stand behind some places to the rising list of the places with them."""
        behind = {other: True for place in places for other in self.behind[place]}
        led = {}
        for place in sorted(behind):
            for sign in self.signs[place]:
                led.setdefault(sign, []).append(place)
        return led

    def kind_behind(self, places):
        """The first kind that may end behind one of some places, or None."""
        last = [place for place in places if place in self.ended]
        # Places are numbered kind by kind, so the least one is of the first kind.
        return self.ended[min(last)] if last else None


def put_together(one, other):
    """The members of two lists, each once."""
    return one + [member for member in other if member not in one]


def words_hold(grammar, paper):
    """Whether a tuple that begins with "words" is a paper that shows a table for the grammar's kinds."""
    return len(paper) == 3 and word_fault(grammar.kinds(), paper[1], paper[2]) is None


def word_fault(kinds, table, pairs):
    """None where pairs show the table for the kinds, else what is wrong; both may be anything."""
    laid = LaidKinds(kinds)
    wrong = table_fault(table)
    if wrong is None:
        wrong = pairs_fault(pairs, len(table), len(laid.signs))
    if wrong is not None:
        return wrong
    known = {pair: True for pair in pairs}
    if (0, (0,)) not in known:
        return "the pair of the beginning is not there"
    for state, places in known:
        if not is_shown(laid, table[state], places, known):
            return f"the pair of state {state} and places {places} is not as it ought to be"
    return None


def table_fault(table):
    """None where a thing has the form of a table, else what is wrong."""
    if not isinstance(table, tuple):
        return "the table is no tuple"
    for number, state in enumerate(table):
        if not is_row_of(state, 2) or not isinstance(state[1], tuple):
            return f"state {number} is no tuple of a kind and a tuple of moves"
        if state[0] is not None and not isinstance(state[0], str):
            return f"the kind of state {number} is no text"
        if not all([is_move(move, len(table)) for move in state[1]]):
            return f"state {number} has a move that is none"
        signs = "".join([signs for signs, _ in state[1]])
        if len(set(signs)) != len(signs):
            return f"state {number} has two moves for one sign"
    return None


def is_move(thing, many):
    """Whether a thing is a tuple of a text of signs and one of so many states."""
    if not is_row_of(thing, 2) or not isinstance(thing[0], str):
        return False
    return all([sign in SIGNS for sign in thing[0]]) and is_below(thing[1], many)


def is_below(thing, many):
    """Whether a thing is a whole number from 0 to below so many."""
    return is_whole(thing) and 0 <= thing < many


def pairs_fault(pairs, states, places):
    """None where a thing has the form of pairs for so many states and places, else what is wrong."""
    if not isinstance(pairs, tuple):
        return "the pairs are no tuple"
    for number, pair in enumerate(pairs):
        if not is_row_of(pair, 2) or not is_below(pair[0], states) or not isinstance(pair[1], tuple):
            return f"pair {number} is no tuple of a state and a tuple of places"
        if not all([is_below(place, places) for place in pair[1]]):
            return f"pair {number} has a place that is none"
    return None


def is_shown(laid, state, places, known):
    """Whether a state is what the paper needs it to be for a pair of it and some places."""
    kind, moves = state
    if kind != laid.kind_behind(places):
        return False
    led = laid.led(places)
    if sorted(led) != sorted("".join([signs for signs, _ in moves])):
        return False
    return all([(to, tuple(led[sign])) in known for signs, to in moves for sign in signs])
