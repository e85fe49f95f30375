"""Patterns: which things are patterns, and the texts that they spell."""

from tongueyard.places import Places, BEGINNING

SIGNS = "\n !\"#$&'()*+,-./0123456789:;<=>?@ABCDEFGHIJKLMNOPQRSTUVWXYZ[\\]^_`abcdefghijklmnopqrstuvwxyz{|}~"
DEEPEST = 12
PARTS = {"empty": 0, "then": 2, "or": 2, "again": 1, "more": 1, "maybe": 1}


def is_pattern(thing):
    """Whether a thing, of any kind, is a pattern."""
    return is_pattern_within(thing, DEEPEST)


def is_pattern_within(thing, deepest):
    if deepest == 0 or not isinstance(thing, tuple) or len(thing) == 0:
        return False
    word = thing[0]
    if not isinstance(word, str):
        return False
    if word == "signs":
        return len(thing) == 2 and are_signs(thing[1])
    if word not in PARTS or len(thing) != 1 + PARTS[word]:
        return False
    return all([is_pattern_within(part, deepest - 1) for part in thing[1:]])


def are_signs(thing):
    """Whether a thing is a text of one sign or more, each greater than the one ahead."""
    if not isinstance(thing, str) or thing == "":
        return False
    rising = [thing[at - 1] < thing[at] for at in range(1, len(thing))]
    return all(rising) and all([sign in SIGNS for sign in thing])


class Speller:
    """A pattern made ready to be asked of many texts."""

    def __init__(self, pattern):
        self._places = Places([pattern])
        self._having = self._places.by_signs()

    def takes(self, text):
        """Whether the pattern spells a text."""
        reached = BEGINNING
        for sign in text:
            reached = self._places.all_behind(reached) & self._having.get(sign, 0)
        return self._places.first_end(reached) is not None


def spells(pattern, text):
    """Whether a pattern spells a text."""
    return Speller(pattern).takes(text)


def spells_none(pattern):
    """Whether a pattern spells the text without signs."""
    word = pattern[0]
    if word == "signs":
        return False
    if word == "then":
        return spells_none(pattern[1]) and spells_none(pattern[2])
    if word == "or":
        return spells_none(pattern[1]) or spells_none(pattern[2])
    return word != "more" or spells_none(pattern[1])


def least_spelled(pattern):
    """The least text that a pattern spells."""
    word = pattern[0]
    if word == "signs":
        return pattern[1][0]
    if word == "then":
        return least_spelled(pattern[1]) + least_spelled(pattern[2])
    if word == "or":
        return lesser(least_spelled(pattern[1]), least_spelled(pattern[2]))
    return least_spelled(pattern[1]) if word == "more" else ""


def lesser(one, other):
    """The shorter one of two texts, of two as short the first."""
    return one if (len(one), one) < (len(other), other) else other


def only_text(pattern):
    """The text that a pattern spells where it spells just one, else None."""
    word = pattern[0]
    if word == "signs":
        return pattern[1] if len(pattern[1]) == 1 else None
    texts = [only_text(part) for part in pattern[1:]]
    if None in texts:
        return None
    if word == "then":
        return texts[0] + texts[1]
    if word == "or":
        return texts[0] if texts[0] == texts[1] else None
    # Again, more and maybe spell one text alone just where their part spells that without signs alone.
    return "" if "".join(texts) == "" else None
