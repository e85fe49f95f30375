"""Deeds on grammars written as rows of text and read from them."""

from tongueyard.carry import read_number
from tongueyard.cursors import Cursor
from tongueyard.errors import NoRow, NoText
from tongueyard.gtexts import read_pattern
from tongueyard.names import is_name
from tongueyard.ptexts import quoted, shown
from tongueyard.treetexts import read_by_form, read_quoted, show_tree

# What follows the word of a deed: names and numbers, and as the last one perhaps something else.
FORMS = {
    "call": ("name", "name"), "label": ("name", "name"), "add": ("name", "number", "name", "row"), "drop": ("name",),
    "rule": ("number", "name", "alternatives"), "norule": ("name",), "word": ("number", "name", "pattern"),
    "skip": ("number", "name", "pattern"), "noword": ("name",), "kind": ("name", "pattern"),
    "skipkind": ("name", "pattern"), "begin": ("name",), "turn": ("name", "order"),
    "put": ("name", "number", "name", "stuff"), "take": ("name", "number"),
    "fold": ("name", "number", "number", "name", "name"), "unfold": ("name", "number"),
    "bar": ("name", "number", "name"), "nobar": ("name", "number", "name"),
}
# The words of deeds that put a skipped kind, and those without.
SKIPPED_WORDS = {"word": "skip", "kind": "skipkind"}
PLAIN_WORDS = {"skip": "word", "skipkind": "kind"}


def show_deed(deed, *, parts=None):
    """The text of a deed; of one with a tree the parts of its shape are told."""
    word = deed[0]
    told = list(deed[1:])
    if word in SKIPPED_WORDS:
        word = SKIPPED_WORDS[word] if told.pop() else word
    words = [word]
    for form, thing in zip(FORMS[word], told):
        words.extend(shown_things(form, thing, parts))
    return " ".join(words)


def shown_things(form, thing, parts):
    """The list of the words that write a part of a deed."""
    if form == "row" or form == "order":
        return [str(one) for one in thing]
    if form == "pattern":
        return [shown(thing)]
    if form == "alternatives":
        return [" | ".join([" ".join([label + ":"] + list(row)) for label, row in thing])]
    if form == "stuff":
        return [quoted(thing) if isinstance(thing, str) else show_tree(thing, parts)]
    return [str(thing)]


def read_deed(text):
    """The deed that a text writes."""
    deed = deed_of(text) if isinstance(text, str) else None
    if deed is None:
        raise NoRow(text)
    return deed


def deed_of(text):
    """The deed that a text writes, or None."""
    word = text.split(" ")[0]
    if word not in FORMS:
        return None
    forms = FORMS[word]
    is_row = forms[-1] in ("row", "order")
    # The last part may have blanks in it, and of a row no part at all may be there.
    words = text.split(" ", len(forms))
    if is_row and len(words) == len(forms):
        words.append(None)
    if len(words) != len(forms) + 1:
        return None
    told = [read_thing(form, one) for form, one in zip(forms, words[1:])]
    if None in told:
        return None
    if word in PLAIN_WORDS:
        return (PLAIN_WORDS[word],) + tuple(told) + (True,)
    return (word,) + tuple(told) + ((False,) if word in SKIPPED_WORDS else ())


def read_thing(form, word):
    """The part of a deed that a word writes, or None."""
    if form == "name":
        return word if is_name(word) else None
    if form == "number":
        return read_number(word)
    if form == "row" or form == "order":
        words = [] if word is None else word.split(" ")
        told = [read_thing("name" if form == "row" else "number", one) for one in words]
        return None if None in told else tuple(told)
    if form == "alternatives":
        told = [read_alternative(one) for one in word.split(" | ")]
        return None if None in told else told
    try:
        return read_pattern(word) if form == "pattern" else read_stuff(word)
    except NoText:
        return None


def read_alternative(text):
    """The alternative (label, row) that a text writes, or None."""
    words = text.split(" ")
    label = words[0][:-1]
    if words[0] != label + ":" or not all([is_name(word) for word in [label] + words[1:]]):
        return None
    return label, tuple(words[1:])


def read_stuff(text):
    """The text that is quoted in a text, or the tree that is written in it by its form."""
    if not text.startswith("\""):
        return read_by_form(text)
    cursor = Cursor(text)
    told = read_quoted(cursor)
    cursor.need_end()
    # Behind a quoted text nothing stands, no blank either.
    return told if text == quoted(told) else None
