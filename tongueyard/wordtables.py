"""Word tables: to which state each row of signs comes, and the least texts of all sorts."""

from tongueyard.places import PlaceSets, numbers_of


def word_table(kinds):
    """The word table of kinds."""
    return table_of_patterns([name for name, _, _ in kinds], [pattern for _, pattern, _ in kinds])


def table_of_patterns(names, patterns):
    """The word table of patterns by their names; these may spell the text without signs, too."""
    sets = PlaceSets(patterns)
    states = sets.states()
    table = []
    for number, state in enumerate(states):
        # The sets are numbered as they are first met, so the first one of a state has its number.
        if state == len(table):
            ended = sets.ended[number]
            kind = None if ended is None else names[ended]
            table.append((kind, moves_of_set(sets, states, number)))
    return tuple(table)


def moves_of_set(sets, states, number):
    """The moves of a set's state: for each state that comes next all signs that lead there."""
    led = {}
    for group, to in zip(sets.groups, sets.moves[number]):
        if to is not None:
            led[states[to]] = led.get(states[to], "") + group
    return tuple([("".join(sorted(signs)), to) for to, signs in led.items()])


def word_paper(kinds):
    """The sorted paper of pairs (state, places) that shows the word table of kinds."""
    sets = PlaceSets([pattern for _, pattern, _ in kinds])
    states = sets.states()
    return tuple(sorted([(state, tuple(numbers_of(some))) for state, some in zip(states, sets.sets)]))


def state_behind(table, state, sign):
    """The state to which a sign leads from another one, or None."""
    for signs, to in table[state][1]:
        if sign in signs:
            return to
    return None


def state_of(table, text):
    """The state of a row of signs, or None."""
    state = 0
    for sign in text:
        state = state_behind(table, state, sign)
        if state is None:
            return None
    return state


def kind_at(table, state):
    """The kind of a state's rows, or None, also where there is no state."""
    return None if state is None else table[state][0]


def least_text(start, steps, is_goal):
    """The least text by whose signs steps lead from a stand to a goal, or None.

    steps(stand) lists (sign, next stand), the signs rising; so stands are met by their least texts.
    """
    came = {start: None}
    stands = [start]
    done = 0
    while done < len(stands):
        stand = stands[done]
        done += 1
        if is_goal(stand):
            return text_to(came, stand)
        for sign, to in steps(stand):
            if to not in came:
                came[to] = (sign, stand)
                stands.append(to)
    return None


def text_to(came, stand):
    """The text by which one came to a stand."""
    signs = []
    while came[stand] is not None:
        sign, stand = came[stand]
        signs.append(sign)
    return "".join(signs[::-1])


def single_steps(table, state):
    """The first sign to each next state, and that state."""
    return [(signs[0], to) for signs, to in table[state][1]]


def least_from(table, state, is_goal):
    """The least text by which one comes from a state to a goal, or None."""
    return least_text(state, lambda stand: single_steps(table, stand), is_goal)


def least_row(table, state):
    """The least row of a state."""
    return least_from(table, 0, lambda stand: stand == state)


def least_word(table, kind):
    """The least text of a kind, or None where there is none."""
    return least_from(table, 0, lambda stand: table[stand][0] == kind)


def least_ending(table, state):
    """The least text that, put behind the rows of a state, makes texts of some kind."""
    return least_from(table, state, lambda stand: table[stand][0] is not None)


def led_by_signs(table, state):
    """A dict from signs to the states to which they lead, without any where there is no state."""
    if state is None:
        return {}
    return {sign: to for signs, to in table[state][1] for sign in signs}


def double_steps(table, other, stand):
    """The first sign to each next pair of states, and that pair; a state of a pair may be None."""
    led = led_by_signs(table, stand[0])
    other_led = led_by_signs(other, stand[1])
    steps = {}
    for sign in sorted({**led, **other_led}):
        to = (led.get(sign), other_led.get(sign))
        if to not in steps:
            steps[to] = sign
    return [(sign, to) for to, sign in steps.items()]


def least_between(table, other, start):
    """The least text that leads from a pair of states to unlike kinds, or to one and none, or None."""
    def are_unlike(stand):
        return kind_at(table, stand[0]) != kind_at(other, stand[1])
    return least_text(start, lambda stand: double_steps(table, other, stand), are_unlike)


def least_apart(table, one, other):
    """The least text that, put behind the rows of two states, makes texts not of the same kind."""
    return least_between(table, table, (one, other))


def unlike_words(kinds, others):
    """None where each text has the same pieces by both, else the least text that has not."""
    return least_between(word_table(kinds), word_table(others), (0, 0))


def lost_word(table, kind, other, name):
    """The least text of the kind by the table that is not of the kind called name by the other one."""
    def steps(stand):
        return [(sign, to) for sign, to in double_steps(table, other, stand) if to[0] is not None]

    def is_lost(stand):
        return table[stand[0]][0] == kind and kind_at(other, stand[1]) != name
    return least_text((0, 0), steps, is_lost)


def beyond(one, other):
    """The least text that the one pattern spells and the other does not, or None."""
    return lost_word(table_of_patterns(["one"], [one]), "one", table_of_patterns(["other"], [other]), "other")
