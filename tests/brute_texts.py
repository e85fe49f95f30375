"""The form of texts of grammars, walked sign by sign in all ways at once, to test the reader by."""

from tongueyard.patterns import SIGNS

LETTERS = "abcdefghijklmnopqrstuvwxyz"
KEPT = ("word", "skip", "rule", "top", "bar")
PLAIN = SIGNS.replace("\n", "")

# What may stand for each name: rows of names, of ("one", signs), and of the three that remember what they took.
FORMS = {
    "gap": [(), ("blank", "gap")],
    "blank": [(("one", "\n "),), (("one", "#"), "remark")],
    # Of signs that are none nothing is promised in remarks; here they are taken.
    "remark": [(("one", PLAIN + "\t"), "remark"), (("one", "\n"),)],
    "rows": [(), ("row", "gap", "rows"), ("top", "gap", "lastrows")],
    "lastrows": [(), ("row", "gap", "lastrows")],
    "row": [("W", "blank", "gap", "N", "gap", "or", "gap", ("one", ";")),
            ("S", "blank", "gap", "N", "gap", "or", "gap", ("one", ";")),
            ("R", "blank", "gap", "N", "gap", ("one", ":"), "gap", "alts", ("one", ";")),
            ("B", "blank", "gap", "N", "gap", ("one", "123456"), "gap", "N", "gap", ("one", ";"))],
    "top": [("T", "blank", "gap", "N", "gap", ("one", ";"))],
    "alts": [("alt",), ("alt", ("one", "|"), "gap", "alts")],
    "alt": [("N", "gap", ("one", ":"), "gap", "symbols")],
    "symbols": [(), ("N", "gap", "symbols")],
    "or": [("then",), ("then", "gap", ("one", "|"), "gap", "or")],
    "then": [("marked",), ("marked", "gap", "then")],
    "marked": [("item", "marks")],
    "marks": [(), ("gap", ("one", "*+?"), "marks")],
    "item": [(("one", "["), ("signs", "")), (("one", "\""), ("text", "")), (("one", "("), "gap", ("one", ")")),
             (("one", "("), "gap", "or", "gap", ("one", ")"))],
    "grammar": [("gap", "rows")],
    "pattern": [("gap", "or", "gap")],
    "W": [tuple(("one", letter) for letter in "word")],
    "S": [tuple(("one", letter) for letter in "skip")],
    "R": [tuple(("one", letter) for letter in "rule")],
    "T": [tuple(("one", letter) for letter in "top")],
    "B": [tuple(("one", letter) for letter in "bar")],
    "N": [(("name", ""),)],
}


def loosened(item):
    """A part of a form, with names of any length and signs told twice."""
    if isinstance(item, str):
        return "loose " + item
    return {("name", ""): ("longname", ""), ("signs", ""): ("anysigns", "")}.get(item, item)


FORMS.update({"loose " + name: [tuple(map(loosened, row)) for row in rows] for name, rows in list(FORMS.items())})
FORMS["loose rows"].append(("loose top", "loose gap", "loose rows"))


def letters(word):
    return tuple(("one", letter) for letter in word)


FORMS.update({
    "ws": [(), (("one", "\n "), "ws")],
    "treetext": [("ws", "tree", "ws")],
    "tree": [("N", "ws", ("one", "("), "ws", "parts", ("one", ")"))],
    "parts": [(), ("part", "ws", "parts")],
    "part": [("tree",), ("N", "ws", ("one", "\""), ("quoted", 10 ** 6))],
    "tally": [("gap", "trows")],
    "trows": [(), ("trow", "gap", "trows")],
    "trow": [letters(way) + ("blank", "gap", "N", "blank", "gap", "sort", "gap", ("one", ":"), "gap", "names",
                             ("one", ";"))
             for way in ("up", "down")]
    + [("N", "gap", ("one", "."), "gap", ("one", "0123456"), "gap", ("one", "."), "gap", "N", "gap", ("one", "="),
        "gap", "exp0", "gap", ("one", ";"))],
    "sort": [letters(word) for word in ("number", "text", "names")],
    "names": [("N", "gap"), ("N", "blank", "gap", "names")],
})
MANY_PARTS = {"join": 2, "shown": 1, "plus": 2, "times": 2, "less": 2, "most": 2, "long": 1, "digits": 1, "many": 1,
              "has": 2, "same": 2,
              "nobody": 0, "just": 1, "either": 2, "off": 2, "choose": 3}


def forms_of_expressions():
    for depth in range(6):
        rows = [("N", "gap", ("one", "."), "gap", ("one", "0123456")), (("figures", ""),),
                (("one", "\""), ("quoted", 60)),
                letters("word") + ("gap", ("one", "("), "gap", ("one", "123456"), "gap", ("one", ")"))]
        for word, many in MANY_PARTS.items():
            if many == 0 or depth < 5:
                inner = ()
                for at in range(many):
                    inner += ((("one", ","), "gap") if at else ()) + (f"exp{depth + 1}", "gap")
                rows.append(letters(word) + ("gap", ("one", "("), "gap") + inner + (("one", ")"),))
        FORMS[f"exp{depth}"] = rows


forms_of_expressions()


def led(item, sign):
    """The rows that may stand for what remembers behind a sign; None in a row where the sign isn't taken by it."""
    sort, told = item
    if sort == "one":
        return [()] if sign in told else []
    if sort in ("name", "longname"):
        found = []
        if sign in LETTERS:
            if len(told) < 8 or sort == "longname":
                found.append(((sort, told + sign),))
        elif told and told not in KEPT:
            found.append(None)
        return found
    if sort == "figures":
        return led_figures(told, sign)
    if sort.startswith("quoted"):
        return led_quoted(told, sign, sort.endswith("\\"))
    return led_within(sort.rstrip("\\"), told, sign, sort.endswith("\\"))


def led_figures(told, sign):
    """The same of a number from 0 to 1000000000, some of its figures being told."""
    if sign not in "0123456789":
        return [None] if told else []
    return [(("figures", told + sign),)] if told != "0" and int(told + sign) <= 1000000000 else []


def led_quoted(left, sign, is_escaped):
    """The same within a quoted text that may have so many signs more."""
    if is_escaped:
        return [(("quoted", left - 1),)] if sign in "\"\\n" else []
    if sign == "\"":
        return [()]
    if sign == "\\":
        return [(("quoted\\", left),)] if left > 0 else []
    return [(("quoted", left - 1),)] if left > 0 and sign in PLAIN else []


def led_within(sort, told, sign, is_escaped):
    """The same within signs and texts, perhaps behind a \\."""
    stop = "\"" if sort == "text" else "]"
    escapes = {stop: stop, "\\": "\\", "n": "\n"}
    taken = told if sort == "signs" else ""
    if is_escaped:
        new = escapes.get(sign)
    elif sign == stop:
        return [()] if told else []
    elif sign == "\\":
        return [((sort + "\\", told),)] if any(one not in taken for one in escapes.values()) else []
    else:
        new = sign if sign in PLAIN else None
    if new is None or new in taken:
        return []
    return [((sort, told + new if sort == "signs" else "some"),)]


def step(stacks, sign):
    """All stacks of what is due, the next one first, behind a sign."""
    found, open_ones, seen = set(), list(stacks), set(stacks)
    while open_ones:
        stack = open_ones.pop()
        if not stack:
            continue
        if isinstance(stack[0], str):
            new = [row + stack[1:] for row in FORMS[stack[0]]]
        else:
            rows = led(stack[0], sign)
            found.update(row + stack[1:] for row in rows if row is not None)
            new = [stack[1:] for row in rows if row is None]
        for one in new:
            if one not in seen:
                seen.add(one)
                open_ones.append(one)
    return found


def first_wrong(form, text):
    """The first sign with which nothing of a form goes on, how many there are where some lack, None where it is one."""
    start = 0
    while (form, text[:start + 1]) in KNOWN and start < len(text):
        start += 1
    stacks = KNOWN.get((form, text[:start]), {(form,)})
    for at in range(start, len(text)):
        stacks = step(stacks, text[at])
        if not stacks:
            return at
    # A line feed changes nothing behind what is whole, and it ends a remark.
    return None if any(is_done(stack) for stack in step(stacks, "\n")) else len(text)


KNOWN = {}


def keep_beginnings(form, text):
    """Keeps what is due behind each beginning of a text, which others have, too."""
    KNOWN.clear()
    stacks = {(form,)}
    for at, sign in enumerate(text):
        stacks = step(stacks, sign)
        KNOWN[(form, text[:at + 1])] = stacks


def is_done(stack):
    return all(isinstance(item, str) and () in FORMS[item] for item in stack)
