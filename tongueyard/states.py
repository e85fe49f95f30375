"""The states of grammars: split ones, and those merged whose items are alike but for their aheads."""

from tongueyard.automata import Items, begun, found_ones, merged_ones

STATES = 120


def begins_of(grammar, symbols, ahead):
    """The sorted list of that with which symbols begin, with an ahead."""
    items = Items(grammar)
    for at, symbol in enumerate(symbols):
        if grammar.is_rule(symbol) and symbol not in items.clean.shapes:
            # A barren name begins with nothing, and nothing behind it comes to stand first.
            return sorted(set(begun(items, symbols[:at], [])))
    return sorted(set(begun(items, symbols, ahead)))


def split_states(grammar, *, limit=STATES):
    """The list of the split states, as they are found."""
    return found_ones(Items(grammar), limit, True).told()


def merged_states(grammar, *, limit=STATES):
    """The list of the merged states, as they are found."""
    return merged_ones(Items(grammar), limit).told()
