"""Slow and plain answers, found without the program's tables, to test it by."""

from itertools import product
from random import Random


def signs(text):
    return ("signs", text)


def then(*parts):
    whole = parts[-1]
    for part in parts[-2::-1]:
        whole = ("then", part, whole)
    return whole


def either(*parts):
    whole = parts[-1]
    for part in parts[-2::-1]:
        whole = ("or", part, whole)
    return whole


def word(text):
    return then(*[signs(sign) for sign in text])


def again(part):
    return ("again", part)


def more(part):
    return ("more", part)


def maybe(part):
    return ("maybe", part)


EMPTY = ("empty",)


def texts(alphabet, most):
    """All texts of at most so many signs of an alphabet, the least ones first."""
    for length in range(most + 1):
        for row in product(sorted(alphabet), repeat=length):
            yield "".join(row)


def lesser_texts(alphabet, text):
    """All texts of an alphabet that are less than a text."""
    for other in texts(alphabet, len(text)):
        if (len(other), other) < (len(text), text):
            yield other


def ends(pattern, text, at):
    """All places at which a text of the pattern can end that begins at a place."""
    kind = pattern[0]
    if kind == "signs":
        return {at + 1} if at < len(text) and text[at] in pattern[1] else set()
    if kind == "empty":
        return {at}
    if kind == "then":
        return {end for middle in ends(pattern[1], text, at) for end in ends(pattern[2], text, middle)}
    if kind == "or":
        return ends(pattern[1], text, at) | ends(pattern[2], text, at)
    if kind == "maybe":
        return {at} | ends(pattern[1], text, at)
    reached = {at} if kind == "again" else set()
    new = [at]
    seen = {at}
    while new:
        for end in ends(pattern[1], text, new.pop()):
            reached.add(end)
            if end not in seen:
                seen.add(end)
                new.append(end)
    return reached


def spelled(pattern, text):
    return len(text) in ends(pattern, text, 0)


def kind_of(kinds, text):
    for name, pattern, _ in kinds:
        if spelled(pattern, text):
            return name
    return None


def derived(pattern, sign):
    """A pattern of what may stand behind a sign, or None where nothing may."""
    kind = pattern[0]
    if kind == "signs":
        return EMPTY if sign in pattern[1] else None
    if kind == "empty":
        return None
    one = derived(pattern[1], sign)
    if kind == "maybe":
        return one
    if kind in ("again", "more"):
        return None if one is None else ("then", one, ("again", pattern[1]))
    if kind == "or":
        return joined(one, derived(pattern[2], sign))
    first = None if one is None else ("then", one, pattern[2])
    return joined(first, derived(pattern[2], sign) if spelled(pattern[1], "") else None)


def joined(one, other):
    if one is None or other is None or one == other:
        return other if one is None else one
    return ("or", one, other)


def goes_on(kinds, row):
    """Whether some text behind a row makes it a text of a kind."""
    for _, pattern, _ in kinds:
        for sign in row:
            pattern = None if pattern is None else derived(pattern, sign)
        if pattern is not None:
            return True
    return False


def piece_at(kinds, text, at):
    """The piece (kind, text, look) at a place, by trying all ends."""
    look = 1
    while at + look <= len(text) and goes_on(kinds, text[at:at + look]):
        look += 1
    for behind in range(len(text), at, -1):
        kind = kind_of(kinds, text[at:behind])
        if kind is not None:
            return kind, text[at:behind], look
    return "", text[at], look


def pieces(kinds, text):
    found = []
    at = 0
    while at < len(text):
        found.append(piece_at(kinds, text, at))
        at += len(found[-1][1])
    return found


def short_pieces(kinds, text):
    return [(kind, piece) for kind, piece, _ in pieces(kinds, text)]


def gap_is_kept(kinds, one, gap, other, behind):
    """Whether one text behind leaves a gap as it ought to be."""
    skipped = [name for name, _, skip in kinds if skip]
    found = short_pieces(kinds, one + gap + other + behind)
    if found[0][1] != one:
        return False
    left = gap
    for kind, piece in found[1:]:
        if left == "":
            return piece.startswith(other)
        if kind not in skipped or not left.startswith(piece):
            return False
        left = left[len(piece):]
    return False


def some_pattern(chance, alphabet, deep):
    """A pattern by chance, of a chance that is always the same."""
    if deep <= 1 or chance.random() < 0.2:
        if chance.random() < 0.1:
            return EMPTY
        return signs("".join(sorted(chance.sample(alphabet, chance.randint(1, min(2, len(alphabet)))))))
    kind = chance.choice(["then", "then", "then", "or", "or", "again", "more", "maybe"])
    parts = 2 if kind in ("then", "or") else 1
    return (kind, *[some_pattern(chance, alphabet, deep - 1) for _ in range(parts)])


def some_patterns(seed, many, alphabet="ab", deep=4):
    chance = Random(seed)
    return [some_pattern(chance, alphabet, deep) for _ in range(many)]


def some_kinds(seed, many, alphabet="ab", deep=4):
    """Lists of one to three kinds by chance, none of which spells the text without signs."""
    chance = Random(seed)
    found = []
    while len(found) < many:
        kinds = []
        for name in ("one", "two", "three")[:chance.randint(1, 3)]:
            pattern = some_pattern(chance, alphabet, deep)
            while spelled(pattern, ""):
                pattern = some_pattern(chance, alphabet, deep)
            kinds.append((name, pattern, chance.random() < 0.4))
        found.append(kinds)
    return found


DIGITS = signs("0123456789")
LETTERS = signs("abcdefghijklmnopqrstuvwxyz")

# Kinds as a small language has them.
LANGUAGE = [
    ("num", more(DIGITS), False),
    ("loop", word("loop"), False),
    ("id", then(LETTERS, again(either(LETTERS, DIGITS))), False),
    ("arrow", word("->"), False),
    ("less", signs("-"), False),
    ("blank", more(signs("\n ")), True),
    ("note", then(signs("#"), again(signs(" abc")), signs("\n")), True),
]

SMALL = [
    [("a", signs("a"), False)],
    [("a", signs("a"), False), ("b", signs("b"), True)],
    [("a", then(again(signs("a")), signs("b")), False)],
    [("ab", word("ab"), False), ("abab", word("abab"), False), ("a", signs("a"), True)],
    [("ab", more(signs("ab")), False), ("lost", word("ab"), False), ("b", signs("b"), False)],
    [("if", word("ab"), False), ("id", more(signs("ab")), True)],
    [("odd", then(signs("a"), again(word("aa"))), False), ("even", more(word("aa")), True)],
    [("x", then(signs("a"), maybe(then(again(signs("b")), signs("a")))), False), ("gap", more(signs("b")), True)],
]


def last_but(many, alphabet="ab", one="a"):
    """Texts in which the sign numbered many from the end is one; 2 ** many sets of places and one more."""
    return then(again(signs(alphabet)), signs(one), *[signs(alphabet)] * (many - 1))


# 257 + 128 sets of places, less one for the common beginning.
LARGE = [("w", last_but(8), False), ("v", last_but(7, "cd", "c"), False)]
