"""Tables written as texts, and read again."""

from tongueyard.errors import NoTable
from tongueyard.grammars import END
from tongueyard.names import is_name

FIGURES = "0123456789"
MOST_FIGURES = 4


def table_text(table):
    """The text of a table."""
    rows = []
    for number, (items, deeds) in enumerate(zip(table[0], table[1])):
        rows.append(f"state {number}")
        for label, dot, ahead in items:
            rows.append(" ".join(["item", label, str(dot)] + list(ahead)))
        for symbol in sorted(deeds):
            rows.append(" ".join(["on", symbol] + [str(part) for part in deeds[symbol]]))
    return "\n".join(rows)


def read_table(text):
    """The table that a text writes."""
    states = []
    deeds = []
    rows = text.split("\n")
    for number, row in enumerate(rows):
        words = row.split(" ")
        if words == ["state", str(len(states))]:
            states.append([])
            deeds.append({})
            continue
        item = read_item(words)
        read = read_deed(words)
        if states and item is not None and not deeds[-1]:
            states[-1].append(item)
        elif states and read is not None and is_behind(read[0], deeds[-1]):
            deeds[-1][read[0]] = read[1]
        else:
            raise NoTable(number)
    return tuple([tuple(items) for items in states]), tuple(deeds)


def is_behind(symbol, deeds):
    """Whether a symbol is greater than all that a dict has, which were put in rising."""
    return not deeds or symbol > list(deeds)[-1]


def read_item(words):
    """The item that words write, or None."""
    if len(words) < 3 or words[0] != "item":
        return None
    dot = read_number(words[2])
    if dot is None or not all([is_symbol(word) for word in words[1:2] + words[3:]]):
        return None
    return words[1], dot, tuple(words[3:])


def read_deed(words):
    """(symbol, deed) of the deed that words write, or None."""
    if len(words) < 3 or words[0] != "on" or not is_symbol(words[1]):
        return None
    told = words[2:]
    if told == ["done"]:
        return words[1], ("done",)
    if len(told) == 2 and told[0] == "go" and read_number(told[1]) is not None:
        return words[1], ("go", read_number(told[1]))
    if len(told) == 4 and told[0] == "by" and is_symbol(told[1]) and is_symbol(told[3]):
        many = read_number(told[2])
        return None if many is None else (words[1], ("by", told[1], many, told[3]))
    return None


def is_symbol(word):
    """Whether a word is a name or the end."""
    return word == END or is_name(word)


def read_number(word):
    """The number that a word of one to four figures writes, None of any other word."""
    if not 1 <= len(word) <= MOST_FIGURES or not all([sign in FIGURES for sign in word]):
        return None
    return int(word) if word[0] != "0" or word == "0" else None
