"""Deeds on rows of kinds, and the fewest that make a row a text."""

from tongueyard.errors import NoDeeds
from tongueyard.lowest import Lowest
from tongueyard.names import is_name


def mended(row, deeds):
    """The list of kinds that deeds make of a row."""
    made = []
    at = 0
    for number, deed in enumerate(deeds):
        if not is_deed(deed) or not fits(row, at, deed):
            raise NoDeeds(number)
        if deed[0] == "keep":
            made.append(row[at])
        elif deed[0] != "drop":
            made.append(deed[1])
        at += 0 if deed[0] == "put" else 1
    if at < len(row):
        raise NoDeeds(len(deeds))
    return made


def is_deed(thing):
    """Whether a thing, of any kind, has the form of a deed."""
    if not isinstance(thing, tuple) or len(thing) == 0 or not isinstance(thing[0], str):
        return False
    if thing[0] in ("keep", "drop"):
        return len(thing) == 1
    return thing[0] in ("put", "turn") and len(thing) == 2 and is_name(thing[1])


def fits(row, at, deed):
    """Whether a deed can be done where so many kinds are done with."""
    if deed[0] == "put":
        return True
    return at < len(row) and (deed[0] != "turn" or deed[1] != row[at])


def fewest(grammar, row):
    """How few deeds make a row a text."""
    return Lowest(grammar, row).fewest()


def mend(grammar, row):
    """The list of fewest deeds that make a row a text."""
    deeds, _ = Lowest(grammar, row).deeds_and_shape()
    return deeds


def mend_paper(grammar, row):
    """The paper of a mend."""
    deeds, shape = Lowest(grammar, row).deeds_and_shape()
    return "mend", tuple(row), tuple(deeds), shape
