"""What may be asked of a thing of any kind."""


def is_whole(thing):
    """Whether a thing is a whole number; True and False are none."""
    return isinstance(thing, int) and not isinstance(thing, bool)


def is_row_of(thing, many):
    """Whether a thing is a tuple of so many members."""
    return isinstance(thing, tuple) and len(thing) == many
