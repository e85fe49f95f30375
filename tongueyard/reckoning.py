"""What expressions of sums are worth."""

from tongueyard.sorts import LONG, MEMBERS, MOST

FIGURES = "0123456789"
MOST_FIGURES = 9


def worth_of(expression, worths, words):
    """What an expression is worth: worths by (place, attribute), the texts of words by places."""
    word = expression[0]
    if word == "at":
        return worths[expression[1:]]
    if word == "word":
        return words[expression[1]][:LONG]
    if word == "text" or word == "number":
        return expression[1]
    parts = [worth_of(part, worths, words) for part in expression[1:]]
    if word == "choose":
        return parts[1] if parts[0] != 0 else parts[2]
    if word == "same":
        return 1 if parts[0] == parts[1] else 0
    if word == "join" or word == "shown":
        return "".join([str(part) for part in parts])[:LONG]
    if word in ("nobody", "just", "either", "off"):
        return names_of(word, parts)
    return number_of(word, parts)


def names_of(word, parts):
    """What an expression of the sort of names is worth, by what its parts are."""
    if word == "nobody":
        return ()
    if word == "just":
        return (parts[0],)
    one, other = parts
    if word == "off":
        return tuple([text for text in one if text not in other])
    both = one + tuple([text for text in other if text not in one])
    return tuple(sorted(both)[:MEMBERS])


def number_of(word, parts):
    """What an expression of the sort of numbers is worth, by what its parts are."""
    if word == "long" or word == "many":
        return len(parts[0])
    if word == "digits":
        return written_number(parts[0])
    one, other = parts
    if word == "has":
        return 1 if other in one else 0
    if word == "plus":
        return min(MOST, one + other)
    if word == "times":
        return min(MOST, one * other)
    return max(0, one - other) if word == "less" else max(one, other)


def written_number(text):
    """The number that one to nine figures write, 0 of any other text."""
    if not 1 <= len(text) <= MOST_FIGURES or not all([sign in FIGURES for sign in text]):
        return 0
    return int(text)


def read_by(expression):
    """The list of the (place, attribute) that an expression reads by "at", each once."""
    if expression[0] == "at":
        return [expression[1:]]
    found = {}
    if expression[0] not in ("word", "text", "number"):
        for part in expression[1:]:
            for one in read_by(part):
                found[one] = True
    return list(found)
