"""Patterns within texts of grammars: how they are written, and read at a cursor."""

MARKS = {"*": "again", "+": "more", "?": "maybe"}
SHOWN_MARKS = {"again": "*", "more": "+", "maybe": "?"}


def shown(pattern):
    """A pattern as it is written."""
    word = pattern[0]
    if word == "signs":
        return "[" + escaped(pattern[1], "]") + "]"
    if word == "empty":
        return "()"
    if word == "or":
        return shown_in(pattern[1], ("or",)) + " | " + shown(pattern[2])
    if word in SHOWN_MARKS:
        return shown_in(pattern[1], ("then", "or")) + SHOWN_MARKS[word]
    text = text_of(pattern)
    if text is not None:
        return quoted(text)
    return shown_in(pattern[1], ("then", "or")) + " " + shown_in(pattern[2], ("or",))


def shown_in(pattern, words):
    """A pattern as a part of another one: in brackets where it is of one of these words, and no text."""
    told = shown(pattern)
    return "(" + told + ")" if pattern[0] in words and text_of(pattern) is None else told


def text_of(pattern):
    """The text of a then that leans right and is of single signs and nothing else; None of any other one."""
    signs = []
    while pattern[0] == "then":
        signs.append(pattern[1])
        pattern = pattern[2]
    signs.append(pattern)
    if len(signs) < 2 or not all([one[0] == "signs" and len(one[1]) == 1 for one in signs]):
        return None
    return "".join([one[1] for one in signs])


def quoted(text):
    """A text between quotes."""
    return "\"" + escaped(text, "\"") + "\""


def escaped(text, stop):
    """A text with a \\ ahead of each \\ and of a sign that would end it, line feeds as \\n."""
    return text.replace("\\", "\\\\").replace(stop, "\\" + stop).replace("\n", "\\n")


def read_choice(cursor):
    """Takes a pattern and what is skipped behind it: (pattern, how many tuples are within one another)."""
    parts = [read_series(cursor)]
    while cursor.is_at("|"):
        cursor.take_sign("|")
        parts.append(read_series(cursor))
    return leaned("or", parts)


def read_series(cursor):
    parts = [read_item(cursor)]
    while cursor.is_at("[\"("):
        parts.append(read_item(cursor))
    return leaned("then", parts)


def leaned(word, parts):
    """Parts, each with its depth, as one that leans right."""
    pattern, deep = parts[-1]
    for part, within in parts[-2::-1]:
        pattern = (word, part, pattern)
        deep = 1 + max(deep, within)
    return pattern, deep


def read_item(cursor):
    """Takes signs, a text or what is in brackets, with the marks behind it."""
    if cursor.is_at("["):
        pattern, deep = read_signs(cursor)
    elif cursor.is_at("\""):
        pattern, deep = read_text(cursor)
    else:
        pattern, deep = read_brackets(cursor)
    cursor.skip()
    while cursor.is_at("*+?"):
        pattern = (MARKS[cursor.take("*+?")], pattern)
        deep += 1
        cursor.skip()
    return pattern, deep


def read_brackets(cursor):
    cursor.take_sign("(")
    told = (("empty",), 1) if cursor.is_at(")") else read_choice(cursor)
    cursor.take(")")
    return told


def read_signs(cursor):
    cursor.take("[")
    told = {}
    while not told or not cursor.is_at("]"):
        sign = cursor.take_quoted(told, "]")
        told[sign] = True
    cursor.take("]")
    return ("signs", "".join(sorted(told))), 1


def read_text(cursor):
    cursor.take("\"")
    signs = []
    while not signs or not cursor.is_at("\""):
        signs.append(cursor.take_quoted({}, "\""))
    cursor.take("\"")
    return leaned("then", [(("signs", sign), 1) for sign in signs])
