"""Rows that are said to a desk: their form, and what each of them does at a bench or asks of it."""

from tongueyard.carry import read_number
from tongueyard.errors import NoRow, NoWorth
from tongueyard.gtexts import read_grammar, show_grammar
from tongueyard.names import is_name
from tongueyard.orders import read_deed
from tongueyard.ptexts import quoted
from tongueyard.tallytexts import show_tally, sums_read
from tongueyard.treetexts import show_tree
from tongueyard.trees import parts_of


def grammar_row(bench, told):
    grammar, _ = read_grammar(told[1])
    bench.founded(told[0], grammar)


def turn_row(bench, told):
    return str(bench.turn(told[0], told[1]))


def sums_row(bench, told):
    marks, sums = sums_read(told[1])
    bench.summed(told[0], marks, sums)


def nosums_row(bench, told):
    bench.unsummed(told[0])


def layout_row(bench, told):
    bench.laid_out(told[0], told[1])


def live_row(bench, told):
    bench.opened(told[0], told[1], told[2])


def still_row(bench, told):
    bench.opened(told[0], told[1], told[2], still=True)


def close_row(bench, told):
    bench.closed(told[0])


def edit_row(bench, told):
    name, at, gone, text = told
    bench.edit(name, at, gone=gone, put=text)


def lead_row(bench, told):
    bench.lead(told[0])


def mend_row(bench, told):
    return str(bench.mend(told[0]))


def undo_row(bench, _):
    bench.undo()


def redo_row(bench, _):
    bench.redo()


def text_asked(bench, told):
    return bench.document(told[0]).text_now()


def tree_asked(bench, told):
    tree = bench.document(told[0]).tree_now()
    name, version, _ = bench.about(told[0])
    return show_tree(tree, parts_of(bench.grammar_of(name, version=version), tree[0]))


def words_asked(bench, told):
    return several([word[0] for word in bench.document(told[0]).words_now()])


def nodes_asked(bench, told):
    return several(list(bench.document(told[0]).nodes_now()[1]))


def many_asked(bench, told):
    return str(bench.document(told[0]).many_now())


def stop_asked(bench, told):
    stop = bench.document(told[0]).stop_now()
    if stop is None:
        return "reads"
    return ("end" if stop[0] is None else str(stop[0])) + " " + several(stop[1])


def print_asked(bench, told):
    return bench.print_of(told[0], width=told[1] if len(told) > 1 else None)


def worth_asked(bench, told):
    name, node, attribute = told
    rows = bench.worths_of(name)
    found = [row[2] for row in (rows if rows is not None else []) if row[:2] == (node, attribute)]
    if not found:
        raise NoWorth(node, attribute)
    if isinstance(found[0], str):
        return quoted(found[0])
    return several([quoted(text) for text in found[0]]) if isinstance(found[0], tuple) else str(found[0])


def about_asked(bench, told):
    name, version, is_still = bench.about(told[0])
    return several([name, version, "still" if is_still else "live"])


def hangs_asked(bench, told):
    return several(bench.hangs_of(told[0]))


def show_asked(bench, told):
    return show_grammar(bench.grammar_of(told[0]))


def tally_asked(bench, told):
    tally = bench.sums_of(told[0])
    return "none" if tally is None else show_tally(tally)


def tongues_asked(bench, _):
    return several(bench.tongues())


def docs_asked(bench, _):
    return several(bench.docs())


def spared_asked(bench, _):
    return several(bench.spared())


def changed_asked(bench, _):
    return several(bench.changed())


def several(things):
    """Several things with blanks between them."""
    return " ".join([str(one) for one in things]) if things else "none"


DEEDS = {
    "grammar": grammar_row, "turn": turn_row, "sums": sums_row, "nosums": nosums_row, "layout": layout_row,
    "open": live_row, "still": still_row, "close": close_row, "edit": edit_row, "lead": lead_row, "mend": mend_row,
    "undo": undo_row, "redo": redo_row,
}
QUESTIONS = {
    "text": text_asked, "tree": tree_asked, "words": words_asked, "nodes": nodes_asked, "many": many_asked,
    "stop": stop_asked, "print": print_asked, "worth": worth_asked, "about": about_asked, "hangs": hangs_asked,
    "show": show_asked, "tally": tally_asked, "tongues": tongues_asked, "docs": docs_asked, "spared": spared_asked,
    "changed": changed_asked,
}
# What stands behind the word of a row; of a question with two forms the longer one.
FORMS = {
    "grammar": ("name", "text"), "turn": ("name", "deeds"), "sums": ("name", "text"), "nosums": ("name",),
    "layout": ("name", "marks"), "open": ("name", "name", "text"), "still": ("name", "name", "text"),
    "close": ("name",), "edit": ("name", "number", "number", "text"), "lead": ("name",), "mend": ("name",),
    "undo": (), "redo": (),
    "text": ("name",), "tree": ("name",), "words": ("name",), "nodes": ("name",), "many": ("name",),
    "stop": ("name",), "print": ("name", "number"), "worth": ("name", "number", "name"), "about": ("name",),
    "hangs": ("name",), "show": ("name",), "tally": ("name",), "tongues": (), "docs": (), "spared": (), "changed": (),
}


def read_row(row):
    """The word of a row and the list of what it tells behind it; None of anything that is no row."""
    if not isinstance(row, str):
        return None
    word = row.split(" ")[0]
    if word not in FORMS:
        return None
    forms = FORMS[word]
    words = row.split(" ", len(forms))[1:] if forms else row.split(" ")[1:]
    if word == "print" and len(words) == 1:
        forms = forms[:1]
    if len(words) != len(forms):
        return None
    told = [read_part(form, one) for form, one in zip(forms, words)]
    return None if None in told else (word, told)


def read_part(form, word):
    """What a part of a row tells, or None."""
    if form == "name":
        return word if is_name(word) else None
    if form == "number":
        return read_number(word)
    if form == "deeds":
        return read_deeds(word)
    return read_marks(word) if form == "marks" else word


def read_deeds(text):
    """The list of the deeds that a text writes, a row for each, or None."""
    try:
        return [read_deed(row) for row in text.split("\n")] if text != "" else []
    except NoRow:
        return None


def read_marks(text):
    """The dict of the marks by labels that a text writes, a row for each, or None."""
    rows = [row.split(" ") for row in text.split("\n")] if text != "" else []
    if not all([is_name(word) for row in rows for word in row]):
        return None
    return {row[0]: tuple(row[1:]) for row in rows}


def answer(bench, word, told):
    """Does what a row says, or tells what it asks; what is told, or that it is done."""
    if word in QUESTIONS:
        action = QUESTIONS[word]
        return action(bench, told)
    action = DEEDS[word]
    made = action(bench, told)
    return "ok" if made is None else made
