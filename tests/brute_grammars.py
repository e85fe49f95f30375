"""Slow and plain answers about grammars, found by trying shapes one by one, to test the program by."""

from random import Random

from tests.brute import DIGITS, either, maybe, more, signs, then, word
from tongueyard.grammars import Grammar

KINDS = [("num", more(DIGITS), False), ("plus", signs("+"), False), ("gap", signs(" "), True)]
RULES = [("sum", [("one", ("term",)), ("both", ("sum", "plus", "term"))]), ("term", [("leaf", ("num",)), ("none", ())])]


def grammar_of(text, begin=None, bars=(), kinds=None):
    """A grammar of rows `rule: label a b | label c`; small kinds x and y spell themselves where none are told."""
    rules = []
    for row in text.strip().splitlines():
        name, told = row.split(":")
        alternatives = [one.split() for one in told.split("|")]
        rules.append((name.strip(), [(one[0], tuple(one[1:])) for one in alternatives]))
    if kinds is None:
        kinds = [("x", signs("x"), False), ("y", signs("y"), False)]
    return Grammar(kinds, rules, begin=begin, bars=bars)


SUMS = grammar_of("""
    sum: one term | both sum plus term
    term: leaf num | none""", kinds=KINDS)

NAMED = {
    "sums": SUMS,
    "flat": grammar_of("a: p x y x | q"),
    "empty": grammar_of("a: p"),
    "barren": grammar_of("a: p a\n b: q x | r a | s"),
    "half": grammar_of("a: p b c | q x a\n b: r b\n c: s y | t c b\n"),
    "ring": grammar_of("a: p b | q x\n b: r e a e | s y\n e: t | u x"),
    "self": grammar_of("a: p a | q x a | r"),
    "apart": grammar_of("a: p x | q b\n b: r y\n c: s c x | t a | u"),
    "deep": grammar_of("a: p b b\n b: q c c\n c: r d d\n d: s | t x"),
    "begun": grammar_of("a: p x | q b a\n b: r a | s y", begin="b"),
    "nullable": grammar_of("a: p b c b | q\n b: r c c | s x\n c: t b | u | v y a"),
}

BARRED = {
    "sums": grammar_of("a: p a x a | q b a | r y\n b: s x | t a", bars=(("p", 3, "p"), ("q", 2, "p"), ("q", 2, "q"))),
    "out": grammar_of("a: p b | q x\n b: r b | s a", bars=(("p", 1, "r"), ("p", 1, "s"))),
    "chain": grammar_of("a: p b | q x\n b: r c\n c: s y", bars=(("r", 1, "s"),)),
    "still": grammar_of("a: p a a | q x | r b\n b: s b", bars=(("p", 1, "p"), ("p", 2, "q"), ("p", 2, "r"))),
    "begun": grammar_of("a: p b x\n b: q a | r y | s", begin="b", bars=(("p", 1, "s"), ("q", 1, "p"))),
    "twice": grammar_of("a: p b b x | q b\n b: r a | s | t y", bars=(("p", 1, "r"), ("p", 2, "r"), ("q", 1, "s"))),
    "top": grammar_of("a: p b | q a a\n b: r x | s", bars=(("q", 1, "q"), ("p", 1, "s"))),
}


def some_grammars(seed, many, with_bars=False):
    """Grammars by chance, of a chance that is always the same."""
    chance = Random(seed)
    found = []
    while len(found) < many:
        names = ["a", "b", "c", "d"][:chance.randint(1, 4)]
        labels = iter("klmnopqrstuvw")
        rules = []
        for name in names:
            alternatives = []
            for _ in range(chance.randint(1, 3)):
                row = [chance.choice(["x", "y"] + names * 2) for _ in range(chance.choice([0, 1, 1, 2, 2, 3]))]
                alternatives.append((next(labels), tuple(row)))
            rules.append((name, alternatives))
        kinds = [("x", signs("x"), False), ("y", signs("y"), False)]
        bars = some_bars(chance, rules) if with_bars else ()
        found.append(Grammar(kinds, rules, begin=chance.choice([None, names[0], names[-1]]), bars=bars))
    return found


def some_bars(chance, rules):
    labels = {name: [label for label, _ in alternatives] for name, alternatives in rules}
    possible = [(label, at + 1, other) for _, alternatives in rules for label, row in alternatives
                for at, symbol in enumerate(row) for other in labels.get(symbol, [])]
    return tuple(chance.sample(possible, min(len(possible), chance.randint(1, 4))))


def rows_of(grammar):
    return {label: row for _, alternatives in grammar.rules() for label, row in alternatives}


def labels_by_rule(grammar):
    return {name: [label for label, _ in alternatives] for name, alternatives in grammar.rules()}


def nested(grammar, shape, name=None):
    """The tree of a shape as (label, parts), a part a kind or such a tree, and what of the shape is left.

    None where the shape is wrong; bars are not minded.
    """
    rows, labels = rows_of(grammar), labels_by_rule(grammar)

    def walk(name, left):
        if not left or left[0] not in labels.get(name, []):
            return None
        parts = []
        label, left = left[0], left[1:]
        for symbol in rows[label]:
            if symbol in labels:
                walked = walk(symbol, left)
                if walked is None:
                    return None
                symbol, left = walked
            parts.append(symbol)
        return (label, parts), left

    return walk(grammar.begin() if name is None else name, list(shape))


def is_barred(grammar, tree):
    label, parts = tree
    for place, part in enumerate(parts, 1):
        if isinstance(part, tuple):
            if (label, place, part[0]) in grammar.bars() or is_barred(grammar, part):
                return True
    return False


def words_of(tree):
    """The row of kinds of a nested tree."""
    return [kind for part in tree[1] for kind in ([part] if isinstance(part, str) else words_of(part))]


def is_plain_shape(grammar, shape, row, name=None):
    walked = nested(grammar, shape, name)
    if walked is None or walked[1]:
        return False
    return words_of(walked[0]) == list(row) and not is_barred(grammar, walked[0])


def spelled_plainly(grammar, shape, name=None):
    return words_of(nested(grammar, shape, name)[0])


def shapes_up_to(grammar, most, name=None):
    """All shapes of a rule with at most so many labels, bars minded."""
    rows, labels = rows_of(grammar), labels_by_rule(grammar)
    found = []
    open_ones = [((), ((grammar.begin() if name is None else name, None),))]
    while open_ones:
        shape, due = open_ones.pop()
        if not due:
            found.append(shape)
            continue
        (symbol, at), rest = due[0], due[1:]
        # Each rule that is due needs one more label at least.
        if len(shape) + len(due) > most:
            continue
        for label in labels[symbol]:
            if at is None or (at[0], at[1], label) not in grammar.bars():
                inner = tuple((part, (label, place)) for place, part in enumerate(rows[label], 1) if part in labels)
                open_ones.append((shape + (label,), inner + rest))
    return found


def numbers_of_shape(grammar, shape):
    labels = list(rows_of(grammar))
    return tuple(labels.index(label) for label in shape)


def all_nodes(grammar, shape, name=None):
    """For each node (rule, first word, behind its words, behind its nodes), by the nested tree."""
    homes = {label: rule for rule, labels in labels_by_rule(grammar).items() for label in labels}
    found = []

    def walk(tree, first):
        number = len(found)
        found.append(None)
        behind = first
        for part in tree[1]:
            behind = behind + 1 if isinstance(part, str) else walk(part, behind)
        found[number] = (homes[tree[0]], first, behind, len(found))
        return behind

    walk(nested(grammar, shape, name)[0], 0)
    return found


TEXTS = {"x": "x", "y": "y", "num": "7", "plus": "+"}


def tree_of(grammar, shape, name=None):
    """A tree of a shape, each word with a text of its kind."""
    return tuple(shape), tuple((kind, TEXTS[kind]) for kind in spelled_plainly(grammar, shape, name))


PATTERNS = [
    signs("a"), signs("]"), signs("\n \\]"), signs("\"\\"), ("empty",), word("ab"), word("a\"\\]\nb"),
    then(signs("a"), signs("bc"), signs("d")), then(word("ab"), signs("c")), then(signs("xy"), word("ab")),
    then(signs("xy"), word("ab"), signs("q")), then(then(signs("xy"), signs("a")), word("ab")),
    either(signs("a"), signs("b"), signs("c")), ("or", either(signs("a"), signs("b")), signs("c")),
    then(either(signs("a"), signs("b")), either(signs("a"), word("bc"))), ("again", word("ab")),
    ("more", then(signs("ab"), signs("c"))), maybe(either(word("ab"), ("empty",))), ("again", ("more", maybe(signs("a")))),
    ("again", ("empty",)), then(("empty",), signs("a")), ("then", word("ab"), word("cd")), more(("again", word("ab"))),
    either(then(signs("a"), ("again", signs("b"))), word("xyz")), ("or", word("ab"), ("or", signs("a"), ("empty",))),
    ("then", ("or", ("empty",), ("empty",)), ("then", ("empty",), ("empty",))), word("abcdefghijkl"),
]
