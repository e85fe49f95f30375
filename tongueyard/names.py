"""What a name is, and names that are not taken yet."""

LETTERS = "abcdefghijklmnopqrstuvwxyz"
LONGEST = 8
KEPT_WORDS = ("word", "skip", "rule", "top", "bar")
STEM = 6


def is_name(thing):
    """Whether a thing, of any kind, is a name."""
    if not isinstance(thing, str) or not 1 <= len(thing) <= LONGEST:
        return False
    return thing not in KEPT_WORDS and all([letter in LETTERS for letter in thing])


def fresh(name, taken):
    """The first letters of a name and the first two behind them that make a name not taken."""
    stem = name[:STEM]
    for first in LETTERS:
        for second in LETTERS:
            made = stem + first + second
            # A short stem can make one of the kept words, which is no name.
            if is_name(made) and made not in taken:
                return made
    return None
