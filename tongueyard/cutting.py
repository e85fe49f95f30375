"""Cutting a text into its pieces."""

from tongueyard.wordtables import kind_at, state_behind, state_of, word_table

STRAY = ""


def first_piece(table, text, at):
    """The piece of a text at a place: (kind, text, look)."""
    kind = STRAY
    behind = at + 1
    state = 0
    looked = at
    while looked < len(text) and state is not None:
        state = state_behind(table, state, text[looked])
        looked += 1
        if kind_at(table, state) is not None:
            kind = table[state][0]
            behind = looked
    if state is not None:
        # The end of the text was looked at, too.
        looked += 1
    return kind, text[at:behind], looked - at


def pieces_of(table, text):
    """The list of all pieces of a text."""
    pieces = []
    at = 0
    while at < len(text):
        piece = first_piece(table, text, at)
        pieces.append(piece)
        at = at + len(piece[1])
    return pieces


def cut_words(kinds, text):
    """The list of (kind, text) of a text's pieces but those of skipped kinds."""
    skipped = {name: skip for name, _, skip in kinds}
    pieces = pieces_of(word_table(kinds), text)
    return [(kind, piece) for kind, piece, _ in pieces if not skipped.get(kind, False)]


def is_good(table, kind, text):
    """Whether the pieces of a text are just one, of a kind."""
    found = kind_at(table, state_of(table, text))
    return found is not None and found == kind
