"""Deeds on grammars: each makes a new grammar, and the step that leads to it."""

from tongueyard.bridges import Bridge, Step
from tongueyard.changes import Change
from tongueyard.errors import NoDeed, NoGrammar, NotDone
from tongueyard.patterns import spells
from tongueyard.trees import is_tree


def call(change, deed):
    _, name, other = deed
    need(change.grammar.is_kind(name) or change.grammar.is_rule(name), deed)
    change.call_name(name, other)


def label_deed(change, deed):
    _, label, other = deed
    need(change.grammar.is_label(label), deed)
    change.call_label(label, other)


def add(change, deed):
    _, name, at, label, row = deed
    need(change.grammar.is_rule(name) and 0 <= at <= len(change.grammar.labels_of(name)), deed)
    change.add_alternative(name, at, label, tuple(row))


def drop(change, deed):
    need(change.grammar.is_label(deed[1]), deed)
    change.drop_label(deed[1])


def rule_deed(change, deed):
    _, at, name, alternatives = deed
    need(0 <= at <= len(change.rule_rows), deed)
    change.put_rule(at, name, alternatives)


def norule(change, deed):
    need(change.grammar.is_rule(deed[1]), deed)
    change.drop_rule(deed[1])


def word_deed(change, deed):
    _, at, name, pattern, skipped = deed
    need(0 <= at <= len(change.kind_rows), deed)
    change.kind_rows.insert(at, (name, pattern, skipped))


def noword(change, deed):
    need(change.grammar.is_kind(deed[1]), deed)
    change.kind_rows = [row for row in change.kind_rows if row[0] != deed[1]]
    del change.called[deed[1]]


def kind_deed(change, deed):
    need(change.grammar.is_kind(deed[1]), deed)
    change.kind_rows = [deed[1:] if row[0] == deed[1] else row for row in change.kind_rows]


def begin_deed(change, deed):
    change.top = deed[1]


def turn_deed(change, deed):
    _, label, order = deed
    need(change.grammar.is_label(label), deed)
    row = change.grammar.row_of(label)
    need(sorted(order) == list(range(1, len(row) + 1)), deed)
    change.put_row(label, [row[place - 1] for place in order])
    change.put_parts(label, [[("part", place)] for place in order])
    change.move_bars(label, {place: at + 1 for at, place in enumerate(order)})


def put(change, deed):
    _, label, at, symbol, _ = deed
    need(change.grammar.is_label(label) and 1 <= at <= len(change.grammar.row_of(label)) + 1, deed)
    row = list(change.grammar.row_of(label))
    change.put_row(label, row[:at - 1] + [symbol] + row[at - 1:])
    change.move_bars(label, {place: place + (1 if place >= at else 0) for place in range(1, len(row) + 1)})


def take(change, deed):
    _, label, at = deed
    need_place(change, deed, label, at)
    row = change.grammar.row_of(label)
    change.put_row(label, row[:at - 1] + row[at:])
    change.put_parts(label, [[("part", place)] for place in range(1, len(row) + 1) if place != at])
    change.move_bars(label, {place: place - (1 if place > at else 0) for place in range(1, len(row) + 1)
                             if place != at})


def fold(change, deed):
    _, label, at, behind, name, inner = deed
    need(change.grammar.is_label(label) and 1 <= at < behind <= len(change.grammar.row_of(label)) + 1, deed)
    row = change.grammar.row_of(label)
    run = [("part", place) for place in range(at, behind)]
    change.put_row(label, row[:at - 1] + (name,) + row[behind - 1:])
    change.put_rule(len(change.rule_rows), name, [(inner, row[at - 1:behind - 1])])
    parts = [[("part", place)] for place in range(1, len(row) + 1)]
    change.put_parts(label, parts[:at - 1] + [[("node", inner)] + run] + parts[behind - 1:])
    places = {place: place - (behind - at - 1 if place >= behind else 0) for place in range(1, len(row) + 1)}
    change.bar_rows = [
        (inner, place - at + 1, other) if above == label and at <= place < behind
        else (above, places[place] if above == label else place, other) for above, place, other in change.bar_rows]


def unfold(change, deed):
    _, label, at = deed
    need_place(change, deed, label, at)
    row = change.grammar.row_of(label)
    need(change.grammar.is_rule(row[at - 1]), deed)
    labels = change.grammar.labels_of(row[at - 1])
    need(len(labels) == 1 and labels[0] != label and (label, at, labels[0]) not in change.bar_rows, deed)
    within = change.grammar.row_of(labels[0])
    change.put_row(label, row[:at - 1] + within + row[at:])
    parts = [[("part", place)] for place in range(1, len(row) + 1)]
    parts[at - 1] = [("within", at, labels[0], inner + 1) for inner in range(len(within))]
    change.put_parts(label, parts)
    taken = [(label, at + place - 1, other) for above, place, other in change.bar_rows if above == labels[0]]
    change.move_bars(label, {place: place + (len(within) - 1 if place > at else 0)
                             for place in range(1, len(row) + 1)})
    change.bar_rows = change.bar_rows + taken


def bar_deed(change, deed):
    change.bar_rows = change.bar_rows + [deed[1:]]


def nobar(change, deed):
    need(deed[1:] in change.bar_rows, deed)
    change.bar_rows = [row for row in change.bar_rows if row != deed[1:]]


ACTIONS = {
    "call": call, "label": label_deed, "add": add, "drop": drop, "rule": rule_deed, "norule": norule,
    "word": word_deed, "noword": noword, "kind": kind_deed, "begin": begin_deed, "turn": turn_deed, "put": put,
    "take": take, "fold": fold, "unfold": unfold, "bar": bar_deed, "nobar": nobar,
}
# How many members each deed has.
MEMBERS = {
    "call": 3, "label": 3, "add": 5, "drop": 2, "rule": 4, "norule": 2, "word": 5, "noword": 2, "kind": 4, "begin": 2,
    "turn": 3, "put": 5, "take": 3, "fold": 6, "unfold": 3, "bar": 4, "nobar": 4,
}


def need(holds, deed):
    """Refuses a deed that names what is not there, or does not fit."""
    if not holds:
        raise NoDeed(deed[0])


def need_place(change, deed, label, at):
    """Refuses a deed that names no label, or a place that it has not."""
    need(change.grammar.is_label(label) and 1 <= at <= len(change.grammar.row_of(label)), deed)


def done(grammar, deed):
    """The new grammar that a deed makes, and the step to it."""
    need(deed[0] in ACTIONS and len(deed) == MEMBERS.get(deed[0]), deed)
    change = Change(grammar)
    action = ACTIONS[deed[0]]
    action(change, deed)
    new = change.made()
    if deed[0] == "put":
        put_stuff(change, new, deed)
    return new, Step(grammar, new, change.called, change.templates())


def put_stuff(change, new, deed):
    """Puts what a put puts into trees into its label's template; refuses what does not fit the symbol."""
    _, label, at, symbol, stuff = deed
    if new.is_rule(symbol):
        need(is_tree(new, stuff, name=symbol), deed)
        pieces = tree_pieces(new, stuff)
    else:
        patterns = [pattern for name, pattern, _ in new.kinds() if name == symbol]
        need(isinstance(stuff, str) and spells(patterns[0], stuff), deed)
        pieces = [("word", symbol, stuff)]
    parts = [[("part", place)] for place in range(1, len(change.grammar.row_of(label)) + 1)]
    change.put_parts(label, parts[:at - 1] + [pieces] + parts[at - 1:])


def tree_pieces(new, tree):
    """The pieces that make a tree."""
    shape, words = tree
    labels = list(shape[::-1])
    texts = list(words[::-1])
    pieces = []
    # What is due, the next one last.
    due = [new.rule_of(shape[0])]
    while due:
        symbol = due.pop()
        if new.is_rule(symbol):
            label = labels.pop()
            pieces.append(("node", label))
            due.extend(new.row_of(label)[::-1])
        else:
            pieces.append(("word",) + texts.pop())
    return pieces


def turn(grammar, deeds):
    """The grammar that a list of deeds makes, one behind the other, and the bridge to it."""
    steps = []
    for number, deed in enumerate(deeds):
        try:
            grammar, step = done(grammar, deed)
        except (NoDeed, NoGrammar) as refusal:
            raise NotDone(number) from refusal
        steps.append(step)
    return grammar, Bridge(steps)
