"""Trees written as texts and read from them."""

from tongueyard.cursors import Cursor
from tongueyard.errors import NoTree
from tongueyard.patterns import Speller
from tongueyard.ptexts import quoted

# The grammar of these texts themselves.
TREES = (
    "word name [abcdefghijklmnopqrstuvwxyz]+;\n"
    "word quote [\"] ([ !#$&'()*+,-./0123456789:;<=>?@ABCDEFGHIJKLMNOPQRSTUVWXYZ[\\]^_`abcdefghijklmnopqrstuvwxyz{|}~]"
    " | [\\\\] [\"\\\\n])* [\"];\n"
    "word left [(];\n"
    "word right [)];\n"
    "skip gap [\\n ]+;\n"
    "rule tree: node: name left parts right;\n"
    "rule parts: none: | some: parts part;\n"
    "rule part: inner: tree | leaf: name quote;\n"
)


def show_tree(tree, parts):
    """The text of a tree, its shape's parts being told."""
    shape, words = tree
    told = []
    # What is due, the next one last: a node, a word, or ("told", text).
    due = [("node", 0)]
    while due:
        sort, at = due.pop()
        if sort == "told":
            told.append(at)
        elif sort == "word":
            told.append(words[at][0] + quoted(words[at][1]))
        else:
            told.append(shape[at] + "(")
            due.append(("told", ")"))
            for number in range(len(parts[at]) - 1, -1, -1):
                due.append(parts[at][number])
                if number > 0:
                    due.append(("told", " "))
    return "".join(told)


class TreeCursor(Cursor):
    """A text in which there are no remarks."""

    def skip(self):
        """Takes blanks and line feeds, perhaps none."""
        while self.is_at("\n "):
            self.at += 1


class TreeForm:
    """What a text of the form of a tree writes.

    heads: its labels; parts: for each the list of its parts, ("node", number) or ("word", number); words: its words.
    """

    def __init__(self, text):
        self.heads = []
        self.parts = []
        self.words = []
        cursor = TreeCursor(text)
        cursor.skip()
        name, _, _ = cursor.take_name()
        around = [self.begin_node(cursor, name, None)]
        while around:
            if cursor.is_at(")"):
                cursor.take_sign(")")
                around.pop()
                continue
            name, _, _ = cursor.take_name()
            if cursor.is_at("\""):
                self.parts[around[-1]].append(("word", len(self.words)))
                self.words.append((name, read_quoted(cursor)))
            else:
                around.append(self.begin_node(cursor, name, around[-1]))
        cursor.need_end()

    def begin_node(self, cursor, name, above):
        """Takes the bracket behind a label; the number of the node that it begins."""
        cursor.take_sign("(")
        number = len(self.heads)
        if above is not None:
            self.parts[above].append(("node", number))
        self.heads.append(name)
        self.parts.append([])
        return number


def read_quoted(cursor):
    """Takes a quoted text, perhaps without signs, and what is skipped behind it."""
    cursor.take("\"")
    signs = []
    while not cursor.is_at("\""):
        signs.append(cursor.take_quoted({}, "\""))
    cursor.take_sign("\"")
    return "".join(signs)


def read_tree(grammar, text, *, name=None):
    """The tree of a rule that a text writes."""
    form = TreeForm(text)
    due = {0: (grammar.begin() if name is None else name, None, 0)}
    spellers = {kind: Speller(pattern) for kind, pattern, _ in grammar.kinds()}
    for number, label in enumerate(form.heads):
        wanted, above, place = due[number]
        if not grammar.is_label(label) or grammar.rule_of(label) != wanted:
            raise NoTree(number)
        if above is not None and (form.heads[above], place, label) in grammar.bars():
            raise NoTree(number)
        row = grammar.row_of(label)
        if len(row) != len(form.parts[number]):
            raise NoTree(number)
        for at, (sort, part) in enumerate(form.parts[number]):
            if sort == "node":
                due[part] = (row[at], number, at + 1)
            elif form.words[part][0] != row[at] or row[at] not in spellers:
                raise NoTree(number)
            elif not spellers[row[at]].takes(form.words[part][1]):
                raise NoTree(number)
    return tuple(form.heads), tuple(form.words)


def read_by_form(text):
    """The tree that a text writes, by its form alone."""
    form = TreeForm(text)
    return tuple(form.heads), tuple(form.words)
