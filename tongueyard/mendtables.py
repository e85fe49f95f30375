"""Tables of how few deeds do, and papers that no fewer ones do."""

from tongueyard.lowest import Lowest


def lows(grammar, row):
    """The table of lows of a row of kinds."""
    return told_lows(Lowest(grammar, row))


def told_lows(lowest):
    """The tuple of all (label, dot, first, behind, low), in their order."""
    order = [label for alternatives in lowest.clean.alternatives.values() for label, _ in alternatives]
    numbers = {label: number for number, label in enumerate(order)}
    places = sorted([(numbers[label], dot, first, behind) for label, dot, first, behind in lowest.lows])
    return tuple([(order[number], dot, first, behind, lowest.lows[(order[number], dot, first, behind)])
                  for number, dot, first, behind in places])


def nofewer_paper(grammar, row):
    """The paper that no fewer deeds make a row a text than are told."""
    lowest = Lowest(grammar, row)
    return "nofewer", tuple(row), lowest.fewest(), told_lows(lowest)
