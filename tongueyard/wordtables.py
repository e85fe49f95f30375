"""Word tables: to which state each row of signs comes, and the least texts of all sorts."""

from tongueyard.places import numbers_of
from tongueyard.searches import least_text
from tongueyard.ways import classes_of, least_between, merged, sets_and_ways


def word_table(kinds):
    """The word table of kinds."""
    ways = merged(ways_of_kinds(kinds))
    in_order = {}
    table = []
    for kind, row in zip(ways.ended[:-1], ways.rows):
        moves = [(signs, to) for signs, to in zip(ways.groups, row) if to >= 0]
        if len(moves) > 1:
            moves = moves_by_states(moves, in_order)
        table.append((kind, tuple(moves)))
    return tuple(table)


def ways_of_kinds(kinds):
    return sets_and_ways([name for name, _, _ in kinds], [pattern for _, pattern, _ in kinds])[1]


def moves_by_states(moves, in_order):
    """Moves with those to one state put together, by their first signs.

    in_order: the texts that were put together so far, and the same signs in order; it is added to.
    """
    led = {}
    for signs, to in moves:
        led[to] = led.get(to, "") + signs
    if len(led) == len(moves):
        return moves
    for signs in led.values():
        if signs not in in_order:
            in_order[signs] = "".join(sorted(signs))
    return [(in_order[signs], to) for to, signs in led.items()]


def word_paper(kinds):
    """The sorted paper of pairs (state, places) that shows the word table of kinds."""
    sets, ways = sets_and_ways([name for name, _, _ in kinds], [pattern for _, pattern, _ in kinds])
    return tuple(sorted([(state, tuple(numbers_of(some))) for state, some in zip(classes_of(ways), sets)]))


def state_behind(table, state, sign):
    """The state to which a sign leads from another one, or None."""
    for signs, to in table[state][1]:
        if sign in signs:
            return to
    return None


def state_of(table, text):
    """The state of a row of signs, or None."""
    state = 0
    for sign in text:
        state = state_behind(table, state, sign)
        if state is None:
            return None
    return state


def kind_at(table, state):
    """The kind of a state's rows, or None, also where there is no state."""
    return None if state is None else table[state][0]


def single_steps(table, state):
    """The first sign to each next state, and that state."""
    return [(signs[0], to) for signs, to in table[state][1]]


def least_from(table, state, is_goal):
    """The least text by which one comes from a state to a goal, or None."""
    return least_text(state, lambda stand: single_steps(table, stand), is_goal)


def least_row(table, state):
    """The least row of a state."""
    return least_from(table, 0, lambda stand: stand == state)


def least_word(table, kind):
    """The least text of a kind, or None where there is none."""
    return least_from(table, 0, lambda stand: table[stand][0] == kind)


def least_ending(table, state):
    """The least text that, put behind the rows of a state, makes texts of some kind."""
    return least_from(table, state, lambda stand: table[stand][0] is not None)


def led_by_signs(table, state):
    """A dict from signs to the states to which they lead."""
    return {sign: to for signs, to in table[state][1] for sign in signs}


def double_steps(table, other, stand):
    """The first sign to each next pair of states, and that pair; one state of a pair may be None."""
    state, other_state = stand
    if other_state is None:
        return [(sign, (to, None)) for sign, to in single_steps(table, state)]
    if state is None:
        return [(sign, (None, to)) for sign, to in single_steps(other, other_state)]
    led = led_by_signs(table, state)
    other_led = led_by_signs(other, other_state)
    steps = {}
    for sign in sorted({**led, **other_led}):
        to = (led.get(sign), other_led.get(sign))
        if to not in steps:
            steps[to] = sign
    return [(sign, to) for to, sign in steps.items()]


def are_unlike(kind, other):
    return kind != other


def least_apart(table, one, other):
    """The least text that, put behind the rows of two states, makes texts not of the same kind."""
    def are_apart(stand):
        return kind_at(table, stand[0]) != kind_at(table, stand[1])
    return least_text((one, other), lambda stand: double_steps(table, table, stand), are_apart)


def unlike_words(kinds, others):
    """None where each text has the same pieces by both, else the least text that has not."""
    return least_between(ways_of_kinds(kinds), ways_of_kinds(others), are_unlike)


def lost_word(table, kind, other, name):
    """The least text of the kind by the table that is not of the kind called name by the other one."""
    def steps(stand):
        return [(sign, to) for sign, to in double_steps(table, other, stand) if to[0] is not None]

    def is_lost(stand):
        return table[stand[0]][0] == kind and kind_at(other, stand[1]) != name
    return least_text((0, 0), steps, is_lost)


def is_beyond(kind, other):
    return kind is not None and other is None


def beyond(one, other):
    """The least text that the one pattern spells and the other does not, or None."""
    ways = sets_and_ways(["one"], [one])[1]
    return least_between(ways, sets_and_ways(["other"], [other])[1], is_beyond)
