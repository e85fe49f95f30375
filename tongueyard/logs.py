"""Logs of shapes: their deeds by their ends, "" for a word, its label for a node."""

from tongueyard.errors import NoLog


def log_of(grammar, shape):
    """The log of a shape of the beginning."""
    log = []
    due = []
    for label in shape:
        # What is due, the next one last: (whether it is the end of a node, its label or a symbol).
        due.append((True, label))
        due.extend([(False, symbol) for symbol in grammar.row_of(label)[::-1]])
        log_to_rule(grammar, due, log)
    return log


def log_to_rule(grammar, due, log):
    """Logs the words and the ends of nodes that are due, and takes the rule behind them away."""
    while due:
        is_end, text = due.pop()
        if is_end:
            log.append(text)
        elif grammar.is_kind(text):
            log.append("")
        else:
            return


def shape_of_log(grammar, log):
    """The shape that has a log; bars are not minded."""
    nodes = []
    # A piece is (its rule, its node's number), of a word ("", None).
    pieces = []
    for at, deed in enumerate(log):
        if deed == "":
            pieces.append(("", None))
        elif can_be_done(grammar, pieces, deed):
            ahead = len(pieces) - len(grammar.row_of(deed))
            nodes.append((deed, [node for _, node in pieces[ahead:] if node is not None]))
            del pieces[ahead:]
            pieces.append((grammar.rule_of(deed), len(nodes) - 1))
        else:
            raise NoLog(at)
    if [name for name, _ in pieces] != [grammar.begin()]:
        raise NoLog(len(log))
    return shape_of_nodes(nodes)


def can_be_done(grammar, pieces, deed):
    """Whether a deed is a label whose row the last pieces fit."""
    if not grammar.is_label(deed):
        return False
    row = grammar.row_of(deed)
    if len(row) > len(pieces):
        return False
    wanted = ["" if grammar.is_kind(symbol) else symbol for symbol in row]
    return wanted == [name for name, _ in pieces[len(pieces) - len(row):]]


def shape_of_nodes(nodes):
    """The shape of nodes (label, numbers of parts), of which the last one is the top."""
    shape = []
    due = [len(nodes) - 1]
    while due:
        label, parts = nodes[due.pop()]
        shape.append(label)
        due.extend(parts[::-1])
    return tuple(shape)


def alike_words(log, other):
    """How many words are among the deeds in which two logs are alike from their beginnings on."""
    alike = 0
    while alike < min(len(log), len(other)) and log[alike] == other[alike]:
        alike += 1
    return log[:alike].count("")
