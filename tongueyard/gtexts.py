"""Grammars and patterns written as texts and read from them."""

from tongueyard.cursors import Cursor
from tongueyard.errors import NoGrammar, NoText
from tongueyard.grammars import Grammar
from tongueyard.names import KEPT_WORDS, LETTERS
from tongueyard.patterns import DEEPEST
from tongueyard.ptexts import read_choice, shown

PLACES = "123456"

# The grammar of these texts themselves.
META = (
    "word head \"word\" | \"skip\";\n"
    "word rulehead \"rule\";\n"
    "word tophead \"top\";\n"
    "word barhead \"bar\";\n"
    "word name [abcdefghijklmnopqrstuvwxyz]+;\n"
    "word piece [[] ([ !\"#$&'()*+,-./0123456789:;<=>?@ABCDEFGHIJKLMNOPQRSTUVWXYZ[^_`abcdefghijklmnopqrstuvwxyz{|}~]"
    " | [\\\\] [\\\\\\]n])+ [\\]]"
    " | [\"] ([ !#$&'()*+,-./0123456789:;<=>?@ABCDEFGHIJKLMNOPQRSTUVWXYZ[\\]^_`abcdefghijklmnopqrstuvwxyz{|}~]"
    " | [\\\\] [\"\\\\n])+ [\"];\n"
    "word mark [*+?];\n"
    "word pipe [|];\n"
    "word left [(];\n"
    "word right [)];\n"
    "word colon [:];\n"
    "word semi [;];\n"
    "word place [123456];\n"
    "skip gap ([\\n ] | [#] [ !\"#$&'()*+,-./0123456789:;<=>?@ABCDEFGHIJKLMNOPQRSTUVWXYZ"
    "[\\\\\\]^_`abcdefghijklmnopqrstuvwxyz{|}~]*)+;\n"
    "rule text: norow: | rows: text row;\n"
    "rule row: kind: head name choice semi | ruled: rulehead name colon options semi"
    " | begun: tophead name semi | barred: barhead name place name semi;\n"
    "rule options: option: option | options: options pipe option;\n"
    "rule option: labelled: name colon symbols;\n"
    "rule symbols: nosymbol: | symbol: symbols name;\n"
    "rule choice: series: series | either: series pipe choice;\n"
    "rule series: item: item | then: item series;\n"
    "rule item: piece: piece | marked: item mark | nothing: left right | within: left choice right;\n"
)


def show_pattern(pattern):
    """The text of a pattern."""
    return shown(pattern)


def show_grammar(grammar):
    """The text of a grammar, each of its rows ended by a line feed."""
    rows = []
    for name, pattern, skipped in grammar.kinds():
        word = "skip" if skipped else "word"
        rows.append(f"{word} {name} {shown(pattern)}")
    for name, alternatives in grammar.rules():
        told = ["".join([label + ":"] + [" " + symbol for symbol in row]) for label, row in alternatives]
        rows.append(f"rule {name}: " + " | ".join(told))
    if grammar.begin() != grammar.rules()[0][0]:
        rows.append(f"top {grammar.begin()}")
    for label, place, other in grammar.bars():
        rows.append(f"bar {label} {place} {other}")
    return "".join([row + ";\n" for row in rows])


def read_pattern(text):
    """The pattern that a text writes."""
    cursor = Cursor(text)
    cursor.skip()
    pattern, _ = read_choice(cursor)
    cursor.need_end()
    return pattern


def read_grammar(text):
    """The grammar that a text writes, and the dict of the places of its names."""
    draft = Draft(text)
    draft.read_rows()
    return draft.made(), draft.places


class Draft:
    """What is read of a text of a grammar so far."""

    def __init__(self, text):
        self._cursor = Cursor(text)
        self._kinds = []
        self._deep = []
        self._rules = []
        self._top = None
        self._bars = []
        self.places = {}

    def read_rows(self):
        self._cursor.skip()
        while not self._cursor.is_end():
            self.read_row()

    def read_row(self):
        words = [word for word in KEPT_WORDS if self._cursor.is_at(word[0])]
        if not words or (words[0] == "top" and self._top is not None):
            raise NoText(self._cursor.at)
        self._cursor.take_word(words[0])
        if words[0] == "rule":
            self.read_rule()
        elif words[0] == "top":
            self._top = self._cursor.take_name()[0]
        elif words[0] == "bar":
            self.read_bar()
        else:
            self.read_kind(words[0] == "skip")
        self._cursor.take_sign(";")

    def read_placed_name(self, what):
        """Takes a name and keeps its place, by what it names."""
        name, start, behind = self._cursor.take_name()
        self.places[f"{what} {name}"] = (start, behind)
        return name

    def read_kind(self, skipped):
        name = self.read_placed_name("kind")
        pattern, deep = read_choice(self._cursor)
        self._kinds.append((name, pattern, skipped))
        if deep > DEEPEST:
            self._deep.append(name)

    def read_rule(self):
        name = self.read_placed_name("rule")
        self._cursor.take_sign(":")
        alternatives = [self.read_alternative()]
        while self._cursor.is_at("|"):
            self._cursor.take_sign("|")
            alternatives.append(self.read_alternative())
        self._rules.append((name, alternatives))

    def read_alternative(self):
        label = self.read_placed_name("label")
        self._cursor.take_sign(":")
        row = []
        while self._cursor.is_at(LETTERS):
            symbol, start, behind = self._cursor.take_name()
            row.append(symbol)
            self.places[f"label {label} {len(row)}"] = (start, behind)
        return label, tuple(row)

    def read_bar(self):
        label = self._cursor.take_name()[0]
        place = int(self._cursor.take(PLACES))
        self._cursor.skip()
        other = self._cursor.take_name()[0]
        self._bars.append((label, place, other))

    def made(self):
        """The grammar that is read; refuses a kind that is too deep ahead of all else."""
        for name in self._deep:
            raise NoGrammar("deep", name)
        return Grammar(self._kinds, self._rules, begin=self._top, bars=tuple(self._bars))
