"""Deeds of a bench: each makes a new house, or None where it is no step, and tells something."""

from tongueyard.bridges import Bridge
from tongueyard.deeds import turn
from tongueyard.documents import LIMIT
from tongueyard.drafts import words_with
from tongueyard.errors import NoGiven, NoRoom
from tongueyard.houses import Leaf, Version, need_free, need_name, need_there
from tongueyard.layouts import Layout
from tongueyard.ledtallies import led_tally
from tongueyard.pages import Page
from tongueyard.readers import Reader
from tongueyard.tallies import completed
from tongueyard.trees import is_tree


def found(house, name, grammar):
    """A new grammar; told is the number of its version."""
    need_name(name)
    need_free(name, house.grammars)
    version = Version(Reader(grammar), Layout(grammar, {}), None, Bridge())
    return house.with_version(name, version), 0


def give_tally(house, name, marks, sums):
    version = house.version_at(name, None)
    tally = bench_tally(version.grammar, marks, sums)
    return house.with_newest(name, version.with_tally(tally)), None


def bench_tally(grammar, marks, sums):
    """The tally of marks and sums, what lacks put in; refuses one by which the beginning bears downs."""
    tally = completed(grammar, marks, sums)
    for attribute, way, _, names in tally[0]:
        if way == "down" and grammar.begin() in names:
            raise NoGiven(attribute)
    return tally


def take_tally(house, name):
    version = house.version_at(name, None)
    return None if version.tally is None else house.with_newest(name, version.with_tally(None)), None


def lay_out(house, name, marks):
    version = house.version_at(name, None)
    return house.with_newest(name, version.with_layout(Layout(version.grammar, marks))), None


def put_document(house, numbers, name, home, text, is_still):
    """A new document of a grammar."""
    need_name(name)
    need_name(home)
    need_free(name, house.leaves)
    need_there(home, house.grammars)
    need_room(text)
    reader = house.newest(home).reader
    page = Page(reader, text, words_with(reader.cut(text), {}))
    page.number_by(None, numbers)
    return house.with_leaf(name, Leaf(home, len(house.grammars[home]) - 1, is_still, page)), None


def need_room(text):
    """Refuses a text of more signs than a document has."""
    if len(text) > LIMIT:
        raise NoRoom(len(text))


def close(house, name):
    house.leaf_of(name)
    return house.without_leaf(name), None


def take_draft(house, numbers, name, draft):
    """A document behind edits, where these changed it."""
    if not draft.is_changed:
        return None, None
    leaf = house.leaves[name]
    page = draft.made_page()
    page.number_by(leaf.page.last, numbers)
    return house.with_leaf(name, leaf.with_page(leaf.number, page)), None


def turn_house(house, numbers, name, deeds):
    """The next version of a grammar, its live documents read by it; told are its number and those that are spared."""
    old = house.version_at(name, None)
    grammar, bridge = turn(old.grammar, deeds)
    reader = Reader(grammar)
    tally = None
    if old.tally is not None:
        marks, sums, _ = led_tally(bridge, old.tally)
        tally = bench_tally(grammar, marks, sums)
    made = house.with_version(name, Version(reader, led_layout(old, bridge, grammar), tally, bridge))
    number = len(made.grammars[name]) - 1
    spared = []
    for document in sorted(house.leaves):
        leaf = house.leaves[document]
        if leaf.home == name and not leaf.is_still:
            page = turned_page(leaf.page, reader, bridge)
            page.number_by(None if leaf.page.last is None else leaf.page.last.led(bridge), numbers)
            made = made.with_leaf(document, leaf.with_page(number, page))
            if is_spared(leaf.page, page, bridge):
                spared.append(document)
    return made, (number, spared)


def led_layout(old, bridge, grammar):
    """The layout that the labels of an older version lead straight to."""
    marks = {}
    for label in old.grammar.labels():
        if bridge.straight(label):
            marks.setdefault(bridge.leads(label), old.layout.marks_of(label))
    return Layout(grammar, marks)


def turned_page(page, reader, bridge):
    """The text of a page, cut and read by another reader, to whose kinds a bridge leads those of the words."""
    stays = {}
    for number, kind, text, place, _ in page.words:
        # A stray's kind is no name, which a bridge would lead.
        name = kind if kind == "" else bridge.leads_name(kind)
        if name is not None:
            stays[(name, place, len(text))] = number
    return Page(reader, page.text, words_with(reader.cut(page.text), stays))


def is_spared(old, page, bridge):
    """Whether a page keeps its tree as it is over a turn, so that it need not be read for that."""
    if not old.reads() or not page.reader.has_table():
        return False
    numbers = [word[0] for word in old.words]
    if numbers != [word[0] for word in page.words] or page.row != [bridge.leads_name(kind) for kind in old.row]:
        return False
    shape, words = old.tree_told()
    if not all([bridge.straight(label) for label in shape]):
        return False
    heads = tuple([bridge.leads(label) for label in shape])
    led_words = tuple([(bridge.leads_name(kind), text) for kind, text in words])
    return is_tree(page.reader.grammar_read(), (heads, led_words))
