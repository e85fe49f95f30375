"""Tallies written as texts and read from them."""

from tongueyard.cursors import Cursor
from tongueyard.errors import NoText
from tongueyard.expressions import FORMS, MOST_AROUND
from tongueyard.names import LETTERS, LONGEST, is_name
from tongueyard.ptexts import quoted
from tongueyard.sorts import LONG, MOST
from tongueyard.tallies import SORTS, WAYS, completed, tally_of

FIGURES = "0123456789"
PLACES = "0123456"
# How many parts the words have that go by no sorts of their own.
OTHER_PARTS = {"same": 2, "choose": 3}


def show_tally(tally):
    """The text of a tally, each of its rows ended by a line feed."""
    rows = [f"{way} {attribute} {sort}: " + " ".join(names) for attribute, way, sort, names in tally[0]]
    for label, place, attribute, expression in tally[1]:
        rows.append(f"{label}.{place}.{attribute} = {shown_expression(expression)}")
    return "".join([row + ";\n" for row in rows])


def shown_expression(expression):
    word = expression[0]
    if word == "at":
        return f"{expression[2]}.{expression[1]}"
    if word == "number":
        return str(expression[1])
    if word == "text":
        return quoted(expression[1])
    if word == "word":
        return f"word({expression[1]})"
    return word + "(" + ", ".join([shown_expression(part) for part in expression[1:]]) + ")"


def sums_read(text):
    """The list of the marks and that of the sums that a text writes."""
    cursor = Cursor(text)
    marks = []
    sums = []
    cursor.skip()
    while not cursor.is_end():
        name, _, _ = cursor.take_name()
        if name in WAYS and not cursor.is_at("."):
            marks.append(read_mark(cursor, name))
        else:
            sums.append(read_sum(cursor, name))
        cursor.take_sign(";")
    return marks, sums


def read_tally(grammar, text, *, fill=False):
    """The tally that a text writes, where fill is True with what lacks."""
    marks, sums = sums_read(text)
    return completed(grammar, marks, sums) if fill else tally_of(grammar, marks, sums)


def read_mark(cursor, way):
    """Takes what stands behind the way of a mark."""
    attribute, _, _ = cursor.take_name()
    sort = take_one_of(cursor, SORTS)
    cursor.skip()
    cursor.take_sign(":")
    names = []
    while not names or not cursor.is_at(";"):
        names.append(cursor.take_name()[0])
    return attribute, way, sort, tuple(names)


def take_one_of(cursor, words):
    """Takes one of some words, none of which begins another one."""
    taken = ""
    while taken not in words:
        taken = taken + cursor.take("".join([word[len(taken)] for word in words if word.startswith(taken)]))
    return taken


def read_sum(cursor, label):
    """Takes what stands behind the label of a sum."""
    cursor.take_sign(".")
    place = take_place(cursor, PLACES)
    cursor.take_sign(".")
    attribute, _, _ = cursor.take_name()
    cursor.take_sign("=")
    return label, place, attribute, read_expression(cursor, 0)


def take_place(cursor, figures):
    """Takes one of some figures, and what is skipped behind it."""
    place = int(cursor.take(figures))
    cursor.skip()
    return place


def read_expression(cursor, around):
    """Takes an expression within so many others, and what is skipped behind it."""
    if cursor.is_at(FIGURES):
        return "number", take_number(cursor)
    if cursor.is_at("\""):
        return "text", take_short_text(cursor)
    word = take_letters(cursor)
    cursor.skip()
    if word == "word":
        cursor.take_sign("(")
        place = take_place(cursor, PLACES[1:])
        cursor.take_sign(")")
        return word, place
    many = how_many_parts(word)
    # What has parts can't stand where these would be within too many.
    if cursor.is_at("(") and many is not None and (many == 0 or around < MOST_AROUND):
        return (word,) + read_parts(cursor, many, around + 1)
    cursor.take_sign(".")
    return "at", take_place(cursor, PLACES), word


def how_many_parts(word):
    """How many expressions stand in the brackets behind a word, None of a word behind which there are none."""
    if word in FORMS:
        return len(FORMS[word][1])
    return OTHER_PARTS.get(word)


def read_parts(cursor, many, around):
    """Takes so many expressions in brackets."""
    cursor.take_sign("(")
    parts = []
    for at in range(many):
        if at > 0:
            cursor.take_sign(",")
        parts.append(read_expression(cursor, around))
    cursor.take_sign(")")
    return tuple(parts)


def take_letters(cursor):
    """Takes a name, or the word of words, and nothing behind it."""
    letters = cursor.take(LETTERS)
    while cursor.is_at(LETTERS) and len(letters) < LONGEST:
        letters = letters + cursor.take(LETTERS)
    if cursor.is_at(LETTERS) or not (is_name(letters) or letters == "word"):
        raise NoText(cursor.at)
    return letters


def take_number(cursor):
    """Takes the figures of a number that is not too great, no 0 ahead, and what is skipped behind it."""
    number = int(cursor.take(FIGURES))
    while number > 0 and cursor.is_at(FIGURES) and number * 10 + int(cursor.text[cursor.at]) <= MOST:
        number = number * 10 + int(cursor.take(FIGURES))
    cursor.skip()
    return number


def take_short_text(cursor):
    """Takes a quoted text that is not too long, and what is skipped behind it."""
    cursor.take("\"")
    signs = []
    while len(signs) < LONG and not cursor.is_at("\""):
        signs.append(cursor.take_quoted({}, "\""))
    cursor.take_sign("\"")
    return "".join(signs)
