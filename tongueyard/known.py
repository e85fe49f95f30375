"""What is known of a grammar without bars: least shapes, what begins, stands and follows, and rings."""

from tongueyard.clean import Clean
from tongueyard.grammars import END


def least(grammar):
    """A dict from the rules that are not barren to their least shapes."""
    return Clean(grammar).shapes


def can_be_empty(grammar):
    """The sorted list of the rules of which a shape has no words."""
    return sorted(Clean(grammar).empty)


def begins(grammar):
    """A dict from the rules that are not barren to dicts from kinds to shapes that begin with them."""
    return firsts_of(Clean(grammar))


def firsts_of(clean):
    firsts = {name: {} for name in clean.shapes}
    grown = True
    while grown:
        grown = False
        for name, alternatives in clean.alternatives.items():
            for label, row in alternatives:
                heads = heads_of(clean, firsts, row)
                for at, kind, inner in heads:
                    if kind not in firsts[name]:
                        firsts[name][kind] = (label,) + clean.least_with(row, at, inner)
                        grown = True
    return firsts


def heads_of(clean, firsts, row):
    """The list of (at, kind, labels): at a symbol with which a row can begin, a kind with which that one can."""
    heads = []
    for at, symbol in enumerate(row):
        if symbol in firsts:
            heads.extend([(at, kind, labels) for kind, labels in firsts[symbol].items()])
        else:
            heads.append((at, symbol, ()))
        if symbol not in clean.empty:
            return heads
    return heads


def stands(grammar):
    """A dict from the rules that stand in some shape of the beginning to (shape, node)."""
    clean = Clean(grammar)
    around = around_rules(clean, grammar.begin())
    return {name: shape_around(clean, name, around[name]) for name in around}


def around_rules(clean, begin):
    """A dict from the rules that stand to the labels ahead of and behind a node of theirs in a shape."""
    around = {begin: ((), ())} if begin in clean.shapes else {}
    met = list(around)
    done = 0
    while done < len(met):
        spots = clean.spots([met[done]])
        done += 1
        for name, label, row, at in spots:
            if row[at] not in around:
                around[row[at]] = around_part(clean, around[name], label, row, at)
                met.append(row[at])
    return around


def around_part(clean, outer, label, row, at):
    """What is around a part of a node, all else being least; outer is what is around the node."""
    ahead, behind = outer
    return ahead + (label,) + clean.least_of(row[:at]), clean.least_of(row[at + 1:]) + behind


def shape_around(clean, name, outer):
    """(shape, node) of the least shape of a rule with what is around it."""
    ahead, behind = outer
    return ahead + clean.shapes[name] + behind, len(ahead)


def follows(grammar):
    """A dict from the rules that stand to dicts from the kinds, and END, that come next to (shape, node)."""
    clean = Clean(grammar)
    found = around_by_next(clean, grammar.begin())
    return {name: {kind: shape_around(clean, name, outer) for kind, outer in found[name].items()} for name in found}


def around_by_next(clean, begin):
    """For each rule that stands a dict from what comes next to what is around such a node."""
    around = around_rules(clean, begin)
    found = {name: {} for name in around}
    if around:
        found[begin][END] = ((), ())
    firsts = firsts_of(clean)
    spots = clean.spots(around)
    for name, label, row, at in spots:
        ahead, behind = around_part(clean, around[name], label, row[:at + 1], at)
        rest = row[at + 1:]
        for place, kind, inner in heads_of(clean, firsts, rest):
            if kind not in found[row[at]]:
                found[row[at]][kind] = (ahead, clean.least_with(rest, place, inner) + behind)
    lead_on(clean, spots, found)
    return found


def lead_on(clean, spots, found):
    """Leads what comes next behind a node on to its parts behind which nothing need come."""
    grown = True
    while grown:
        grown = False
        for name, label, row, at in spots:
            if clean.is_empty(row[at + 1:]):
                for kind in list(found[name]):
                    if kind not in found[row[at]]:
                        found[row[at]][kind] = around_part(clean, found[name][kind], label, row, at)
                        grown = True


def steps_of(clean, names):
    """For some rules the lists of their steps, (label, place, rule there)."""
    steps = {name: [] for name in names}
    for name, label, row, at in clean.spots(names):
        if clean.is_empty(row[:at] + row[at + 1:]):
            steps[name].append((label, at + 1, row[at]))
    return steps


def falls_of(steps):
    """For rules from which no steps lead into a ring a number greater than those of where their steps lead."""
    falls = {}
    grown = True
    while grown:
        grown = False
        for name, led in steps.items():
            numbers = [falls.get(to) for _, _, to in led]
            if name not in falls and None not in numbers:
                falls[name] = max([-1] + numbers) + 1
                grown = True
    return falls


def ring_of(steps, falls):
    """The list of the steps of a ring, or None where all rules fall."""
    left = [name for name in steps if name not in falls]
    if not left:
        return None
    name = left[0]
    names = []
    taken = []
    while name not in names:
        names.append(name)
        # Where no fall was found some step leads to a rule without one, too.
        label, place, name = [step for step in steps[name] if step[2] not in falls][0]
        taken.append((label, place))
    return taken[names.index(name):]


def ring(grammar):
    """None, or the list of the steps (label, place) of a ring."""
    clean = Clean(grammar)
    steps = steps_of(clean, list(around_rules(clean, grammar.begin())))
    return ring_of(steps, falls_of(steps))


def known_paper(grammar):
    """The paper of all that is known of a grammar."""
    clean = Clean(grammar)
    steps = steps_of(clean, list(around_rules(clean, grammar.begin())))
    falls = falls_of(steps)
    found = ring_of(steps, falls)
    told = [
        [(name, shape) for name, shape in clean.shapes.items()],
        [(name, kind, shape) for name, shapes in firsts_of(clean).items() for kind, shape in shapes.items()],
        [(name, shape, node) for name, (shape, node) in stands(grammar).items()],
        [(name, kind, shape, node) for name, shapes in follows(grammar).items()
         for kind, (shape, node) in shapes.items()],
    ]
    least_ones, begun, standing, following = [tuple(sorted(rows)) for rows in told]
    return ("known", least_ones, begun, standing, following, () if found is None else tuple(found),
            tuple(sorted(falls.items())) if found is None else ())
