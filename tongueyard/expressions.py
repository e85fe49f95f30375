"""Expressions of sums: of which sort they are, and whether they fit a label."""

from tongueyard.sorts import is_worth
from tongueyard.things import is_whole

MOST_PARTS = 16
MOST_AROUND = 5

# By words: the expression's own sort, and the sorts of the expressions in it.
FORMS = {
    "join": ("text", ("text", "text")),
    "shown": ("text", ("number",)),
    "plus": ("number", ("number", "number")),
    "times": ("number", ("number", "number")),
    "less": ("number", ("number", "number")),
    "most": ("number", ("number", "number")),
    "long": ("number", ("text",)),
    "digits": ("number", ("text",)),
    "many": ("number", ("names",)),
    "has": ("number", ("names", "text")),
    "nobody": ("names", ()),
    "just": ("names", ("text",)),
    "either": ("names", ("names", "names")),
    "off": ("names", ("names", "names")),
}


class Reach:
    """What expressions may read at a label.

    sorts: of each (place, attribute) that "at" may read the sort; words: the places where kinds stand.
    """

    def __init__(self, sorts, words):
        self.sorts = sorts
        self.words = words

    def fits(self, thing, sort):
        """Whether a thing, of any kind, is an expression of a sort that fits the label, and not too large."""
        return self.sort_of(thing, 0) == sort and parts_in(thing) <= MOST_PARTS

    def sort_of(self, thing, around):
        """The sort of an expression within so many others; None of what is none or doesn't fit."""
        if around > MOST_AROUND or not isinstance(thing, tuple) or len(thing) == 0 or not isinstance(thing[0], str):
            return None
        word = thing[0]
        if word == "at" and len(thing) == 3 and is_whole(thing[1]) and isinstance(thing[2], str):
            return self.sorts.get((thing[1], thing[2]))
        if word == "word" and len(thing) == 2 and is_whole(thing[1]):
            return "text" if thing[1] in self.words else None
        if (word == "text" or word == "number") and len(thing) == 2:
            return word if is_worth(word, thing[1]) else None
        return self.sort_of_made(word, [self.sort_of(part, around + 1) for part in thing[1:]])

    def sort_of_made(self, word, sorts):
        """The sort of an expression with parts of these sorts, by its word."""
        if None in sorts:
            return None
        if word == "same":
            return "number" if len(sorts) == 2 and sorts[0] == sorts[1] else None
        if word == "choose":
            fits = len(sorts) == 3 and sorts[0] == "number" and sorts[1] == sorts[2]
            return sorts[1] if fits else None
        if word in FORMS and FORMS[word][1] == tuple(sorts):
            return FORMS[word][0]
        return None


def parts_in(expression):
    """How many expressions are in one, itself too."""
    if expression[0] in ("at", "word", "text", "number"):
        return 1
    return 1 + sum([parts_in(part) for part in expression[1:]])
