"""Ways: the stands to which rows of signs come, and where signs lead from each of them."""

from tongueyard.places import BEGINNING, Places
from tongueyard.searches import text_to

MORE_PAIRS = 16


class Ways:
    """Stands, numbered as they are first met, from 0, that of the row without signs, on.

    groups: the texts of signs that lead alike from each stand, by their first signs;
    rows: for each stand the list of the stands to which the groups lead, and -1 behind them;
    ended: for each stand the kind of its rows, or None.
    -1 is no stand: signs that lead to none lead there. What holds of it ends rows and ended.
    """

    def __init__(self, groups, rows, ended):
        self.groups = groups
        self.rows = rows
        self.ended = ended


def sets_and_ways(names, patterns):
    """The sets of places to which rows of signs come, and the ways with a stand for each of them."""
    places = Places(patterns)
    by_having = {}
    for sign, having in places.by_signs().items():
        by_having[having] = by_having.get(having, "") + sign
    sets, rows = met_sets(places, list(by_having))
    rows.append([-1] * (len(by_having) + 1))
    every = 0
    for ends in places.ends:
        every = every | ends
    ended = [names[places.first_end(some)] if some & every else None for some in sets]
    ended.append(None)
    return sets, Ways(list(by_having.values()), rows, ended)


def met_sets(places, groups):
    """The sets of places as they are met, and for each the row of the numbers of those to which groups lead.

    groups: for each the set of the places that have its signs.
    """
    after = {1 << number: behind for number, behind in enumerate(places.behind)}
    sets = [BEGINNING]
    rows = []
    numbers = {0: -1, BEGINNING: 0}
    while len(rows) < len(sets):
        left = sets[len(rows)]
        behind = 0
        while left:
            lowest = left & -left
            behind = behind | after[lowest]
            left = left - lowest
        row = []
        for having in groups:
            led = behind & having
            if led not in numbers:
                numbers[led] = len(sets)
                sets.append(led)
            row.append(numbers[led])
        row.append(-1)
        rows.append(row)
    return sets, rows


def classes_of(ways):
    """For each stand the number of its class, in which all that may follow is alike, and -1 behind them."""
    numbers = {}
    classes = [numbers.setdefault(kind, len(numbers)) for kind in ways.ended[:-1]]
    columns = [[row[at] for row in ways.rows[:-1]] for at in range(len(ways.groups))]
    many = 0
    # As numbers are told as they are first met, classes, too, are numbered by the first stands in them.
    while many < len(numbers) < len(classes):
        many = len(numbers)
        numbers = {}
        ahead = classes + [-1]
        led = [[ahead[to] for to in column] for column in columns]
        classes = [numbers.setdefault(seen, len(numbers)) for seen in zip(classes, *led)]
    classes.append(-1)
    return classes


def merged(ways):
    """Ways with one stand for all those in which all that may follow is alike."""
    classes = classes_of(ways)
    if classes[-2] == len(classes) - 2:
        # Where the last stand has the last number each one is a class by itself.
        return ways
    rows = []
    ended = []
    for number, state in enumerate(classes):
        if state == len(rows):
            rows.append([classes[to] for to in ways.rows[number]])
            ended.append(ways.ended[number])
    rows.append(ways.rows[-1])
    ended.append(None)
    return Ways(ways.groups, rows, ended)


def joint_groups(one, other):
    """The list of (sign, group, other group) of the first signs that lead unlike in two ways, rising."""
    groups = {sign: at for at, signs in enumerate(one.groups) for sign in signs}
    others = {sign: at for at, signs in enumerate(other.groups) for sign in signs}
    firsts = {}
    for sign in sorted({**groups, **others}):
        firsts.setdefault((groups.get(sign, -1), others.get(sign, -1)), sign)
    return [(sign, at, other_at) for (at, other_at), sign in firsts.items()]


def least_between(one, other, is_goal):
    """The least text that leads from the first stands of two ways to a goal, or None.

    is_goal(kind, other kind) tells of what ends at a pair of stands.
    """
    is_done, text = least_pair(one, other, is_goal, max(len(one.rows), len(other.rows)) + MORE_PAIRS)
    if not is_done:
        # With so many pairs it is less work to merge stands first.
        one, other = merged(one), merged(other)
        text = least_pair(one, other, is_goal, len(one.rows) * len(other.rows))[1]
    return text


def least_pair(one, other, is_goal, most):
    """(True, that text or None); (False, None) where more pairs of stands than most are met ahead of it."""
    groups = joint_groups(one, other)
    came = {(-1, -1): None, (0, 0): None}
    pairs = [(0, 0)]
    done = 0
    while done < len(pairs):
        if len(pairs) > most:
            return False, None
        pair = pairs[done]
        done += 1
        if is_goal(one.ended[pair[0]], other.ended[pair[1]]):
            return True, text_to(came, pair)
        row = one.rows[pair[0]]
        other_row = other.rows[pair[1]]
        for sign, at, other_at in groups:
            to = (row[at], other_row[other_at])
            if to not in came:
                came[to] = (sign, pair)
                pairs.append(to)
    return True, None
