"""Documents of a bench put otherwise by print: still ones led to the newest version, and texts mended."""

from tongueyard.bridges import Bridge, led
from tongueyard.drafts import edited, words_with
from tongueyard.errors import NotAlone, NotStill
from tongueyard.documents import LIMIT
from tongueyard.housedeeds import need_room, take_draft
from tongueyard.mends import mend
from tongueyard.pages import Page
from tongueyard.patterns import least_spelled
from tongueyard.printing import printed
from tongueyard.wordtables import least_word


def lead_document(house, numbers, name):
    """A still document at the newest version of its grammar."""
    leaf = house.leaf_of(name)
    if not leaf.is_still:
        raise NotStill(name)
    versions = house.grammars[leaf.home]
    if leaf.number == len(versions) - 1:
        return None, None
    leaf.page.need_reading()
    bridge = Bridge()
    for version in versions[leaf.number + 1:]:
        bridge = bridge.joined_to(version.bridge)
    tree, nodes, words = led(bridge, leaf.page.tree_told(), keep=True)
    text = printed(versions[-1].layout, tree)
    need_room(text)
    reader = versions[-1].reader
    page = Page(reader, text, words_with(reader.cut(text), {}))
    if page.reading.shape != tree[0]:
        raise NotAlone(name)
    number_led(leaf.page, page, nodes, words, numbers)
    return house.with_leaf(name, leaf.with_page(len(versions) - 1, page)), None


def number_led(old, page, nodes, words, numbers):
    """Numbers the words and nodes of a page as those of an old one that were led, the first one of two; others anew."""
    old_words = [old.words[spot][0] for spot in old.row_spots]
    stays = first_ones({page.row_spots[at]: old_words[one] for at, one in words.items()})
    page.words = tuple([(stays.get(at),) + word[1:] for at, word in enumerate(page.words)])
    page.number_words(numbers)
    grown = page.grow()
    kept = first_ones({at: old.last.numbers[one] for at, one in nodes.items()})
    grown.numbers = [kept[at] if at in kept else numbers.take_node() for at in range(len(grown.heads))]
    page.take_tree(grown)


def first_ones(numbers):
    """A dict of numbers by places, each number at the first one of its places alone."""
    places = {}
    for at in sorted(numbers):
        places.setdefault(numbers[at], at)
    return {at: number for number, at in places.items()}


def mend_document(house, numbers, name):
    """A document whose text reads; told is by how many deeds on its row."""
    leaf = house.leaf_of(name)
    page = leaf.page
    if page.reads():
        return None, 0
    deeds = mend(page.reader.parts_read().plain(), page.row)
    version = house.version_of(leaf)
    words = mended_words(page, deeds)
    shape = page.reader.reading_of([kind for kind, _ in words]).shape
    text = printed(version.layout, (shape, tuple(words)))
    need_room(text)
    made, _ = take_draft(house, numbers, name, edited(page, 0, len(page.text), text, LIMIT))
    return made, len([1 for deed in deeds if deed[0] != "keep"])


def mended_words(page, deeds):
    """The list of the words (kind, text) that deeds make of a page's row."""
    left = [page.words[spot][1:3] for spot in page.row_spots][::-1]
    words = []
    for deed in deeds:
        old = left.pop() if deed[0] != "put" else None
        if deed[0] == "keep":
            words.append(old)
        elif deed[0] != "drop":
            words.append((deed[1], least_text_of(page.reader, deed[1])))
    return words


def least_text_of(reader, kind):
    """The least text of a kind, or where there is none the least that its pattern spells."""
    text = least_word(reader.words_of(), kind)
    if text is not None:
        return text
    return [least_spelled(pattern) for name, pattern, _ in reader.grammar_read().kinds() if name == kind][0]
