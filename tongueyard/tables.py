"""Tables of grammars: the deeds of their states, clashes, and what each ahead is good for."""

from tongueyard.automata import Items, States, merged_ones
from tongueyard.errors import Clash, NoItem, TooMany
from tongueyard.grammars import END
from tongueyard.logs import alike_words, log_of
from tongueyard.states import STATES
from tongueyard.trails import Trails
from tongueyard.trees import spelled_by


def table_of(grammar, *, limit=STATES):
    """The table of a grammar."""
    return told_table(states_of(grammar, limit))


def why_ahead(grammar, state, label, kind, *, limit=STATES):
    """Kinds of a text whose run by the table does the deed of an item in a state while a kind is next."""
    states = states_of(grammar, limit)
    base = states.base
    if not 0 <= state < len(states.found) or label not in base.heads or kind not in base.ends:
        raise NoItem(state, label, kind)
    number = base.heads.index(label)
    item = (number, len(base.rows[number]))
    if kind not in base.ahead_of(states.found[state].get(item, 0)):
        raise NoItem(state, label, kind)
    return spelled_by(grammar, Trails(base, states.gos).shape_to((state, item[0], item[1], kind)))


def states_of(grammar, limit):
    """The states of a grammar's table: merged ones where these have no clash, else split ones."""
    items = Items(grammar)
    merged = merged_ones(items, limit)
    if not [1 for number in range(len(merged.found)) if clash_in(merged, number) is not None]:
        return merged
    states = States(items, limit)
    states.begin()
    while not states.is_done():
        number = len(states.gos)
        clash = clash_in(states, number)
        if clash is not None:
            one, other, at = trees_of_clash(grammar, states, number, clash)
            raise Clash(one, other, at)
        states.lead(True)
    if states.has_more:
        raise TooMany(limit)
    return states


def clash_in(states, number):
    """(one item, another one, end) of a state that ask unlike deeds by a symbol, or None."""
    base = states.base
    asked = {}
    for item, mask in sorted(states.found[number].items()):
        symbol = base.next_of(item)
        symbols = base.ahead_of(mask) if symbol is None else [symbol]
        for one in symbols:
            # Of one symbol all gos are alike, but two items without a next one never do the same.
            if one in asked and (symbol is None or base.next_of(asked[one]) is None):
                return asked[one], item, one
            asked[one] = item
    return None


def trees_of_clash(grammar, states, number, clash):
    """The paper's parts of a clash in a split state: two trees, and where they part."""
    one, other, end = clash
    path = path_to(states, number)
    gos = [{symbol: at + 1} for at, symbol in enumerate(path)] + [{}]
    trails = Trails(states.base, gos)
    shapes = []
    for item in (one, other):
        # What stands behind an item that has the clashing kind next is free.
        told = states.base.next_of(item) is None
        behind = end if told else states.base.ahead_of(states.found[number][item])[0]
        shapes.append(trails.shape_to((len(path), item[0], item[1], behind)))
    trees = [(tuple(spelled_by(grammar, shape)), shape) for shape in shapes]
    return trees[0], trees[1], alike_words(log_of(grammar, shapes[0]), log_of(grammar, shapes[1]))


def path_to(states, number):
    """The list of the symbols by which one goes from state 0 to another one."""
    came = {}
    for state, gos in enumerate(states.gos):
        for symbol, to in gos.items():
            came.setdefault(to, (state, symbol))
    symbols = []
    while number > 0:
        number, symbol = came[number]
        symbols.append(symbol)
    return symbols[::-1]


def told_table(states):
    """The table of states without a clash, as it is told."""
    base = states.base
    deeds = []
    for found, gos in zip(states.found, states.gos):
        done = {symbol: ("go", to) for symbol, to in gos.items()}
        for (number, dot), mask in sorted(found.items()):
            if base.next_of((number, dot)) is None:
                for end in base.ahead_of(mask):
                    done[end] = ("done",) if number == 0 else ("by", base.heads[number], dot, base.homes[number])
        deeds.append(done)
    return tuple(states.told()), tuple(deeds)
