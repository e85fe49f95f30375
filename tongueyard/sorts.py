"""The three sorts of worths, and which things are worths of them."""

from tongueyard.patterns import SIGNS
from tongueyard.things import is_whole

MOST = 1000000000
LONG = 60
MEMBERS = 40


def is_worth(sort, thing):
    """Whether a thing is a worth of a sort, both of any kind."""
    if not isinstance(sort, str):
        return False
    if sort == "number":
        return is_whole(thing) and 0 <= thing <= MOST
    if sort == "text":
        return is_short_text(thing)
    return sort == "names" and isinstance(thing, tuple) and are_names(thing)


def is_short_text(thing):
    """Whether a thing is a text of signs that is not too long."""
    return isinstance(thing, str) and len(thing) <= LONG and all([sign in SIGNS for sign in thing])


def are_names(members):
    """Whether members, few enough, are texts of signs, each greater than the one ahead."""
    if len(members) > MEMBERS or not all([is_short_text(member) for member in members]):
        return False
    return all([members[at - 1] < members[at] for at in range(1, len(members))])
