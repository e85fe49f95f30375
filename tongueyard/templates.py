"""Templates of labels, walked piece by piece."""


def direct_parts(grammar, pieces, start):
    """The list of the places among pieces at which the parts of a node begin, which stands at a place there."""
    found = []
    at = start + 1
    for _ in grammar.row_of(pieces[start][1]):
        found.append(at)
        at = behind_piece(grammar, pieces, at)
    return found


def behind_piece(grammar, pieces, at):
    """The place behind a piece and, where it is a node, behind all that is in it."""
    due = 1
    while due > 0:
        due -= 1
        if pieces[at][0] == "node":
            due = due + len(grammar.row_of(pieces[at][1]))
        at += 1
    return at


def straight_template(label, many):
    """The template that is just a node of a label and so many parts, in order."""
    return (("node", label),) + tuple([("part", at + 1) for at in range(many)])
