"""Slow and plain answers about mends: edit distances to texts one by one."""

from tests.brute_reading import clean_labels, rows_by_name
from tests.brute_grammars import rows_of


def distance(row, other):
    """The fewest deeds, each of cost 1, that make one row the other."""
    ahead = list(range(len(other) + 1))
    for kind in row:
        here = [ahead[0] + 1]
        for at, one in enumerate(other):
            here.append(min(ahead[at + 1] + 1, here[at] + 1, ahead[at] + (kind != one)))
        ahead = here
    return ahead[-1]


def slow_fewest(texts, row):
    """The fewest deeds that make a row one of some texts, None where there is none."""
    return min((distance(row, text) for text in texts), default=None)


def slow_lows(grammar, row, most):
    """All lows of a row, by all rows of at most so many kinds to which symbols come."""
    language = rows_by_name(grammar, most)
    found = []
    for name, labels in clean_labels(grammar).items():
        for label in labels:
            symbols = rows_of(grammar)[label]
            for dot in range(len(symbols) + 1):
                heads = {()}
                for symbol in symbols[:dot]:
                    heads = {head + part for head in heads for part in language.get(symbol, {(symbol,)})
                             if len(head) + len(part) <= most}
                for first in range(len(row) + 1):
                    for behind in range(first, len(row) + 1):
                        if dot == 0 and symbols and behind > first:
                            continue
                        found.append((label, dot, first, behind, slow_fewest(heads, row[first:behind])))
    return tuple(found)
