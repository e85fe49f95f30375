"""Gaps that hold between two words, whatever comes behind."""

from tongueyard.cutting import first_piece
from tongueyard.patterns import lesser
from tongueyard.wordtables import least_ending, state_of, word_table


def gap_holds(kinds, one, gap, other):
    """Whether a gap holds between two good words."""
    return gap_breaks(kinds, one, gap, other) is None


def gap_breaks(kinds, one, gap, other):
    """None where a gap holds between two good words, else the least text behind that breaks it."""
    skipped = [name for name, _, skip in kinds if skip]
    return break_by_table(word_table(kinds), skipped, one, gap, other)


def break_by_table(table, skipped, one, gap, other):
    """The same, of a word table and the list of the skipped kinds."""
    begun = begun_ahead(table, skipped, one, gap, other)
    if begun is None:
        return ""
    text = one + gap + other
    least = None
    for at in begun:
        state = state_of(table, text[at:])
        # A row that still has a state is made a longer piece by some text behind.
        if state is not None:
            ending = least_ending(table, state)
            least = ending if least is None else lesser(least, ending)
    return least


def begun_ahead(table, skipped, one, gap, other):
    """The places where the pieces ahead of the other word begin; None where it breaks by itself."""
    text = one + gap + other
    goal = len(one) + len(gap)
    if first_piece(table, text, 0)[1] != one:
        return None
    begun = [0]
    at = len(one)
    while at < goal:
        kind, piece, _ = first_piece(table, text, at)
        if kind not in skipped:
            return None
        begun.append(at)
        at = at + len(piece)
    if at > goal or first_piece(table, text, goal)[1] != other:
        return None
    return begun
