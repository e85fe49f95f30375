"""The bench: grammars in versions and documents of them, all in one house."""

from tongueyard.diaries import Diary
from tongueyard.documents import LIMIT, Document
from tongueyard.drafts import edited, edited_often
from tongueyard.errors import NoStep, NoVersion, RoundWorths
from tongueyard.housecarry import lead_document, mend_document
from tongueyard.housedeeds import (close, found, give_tally, lay_out, put_document, take_draft, take_tally,
                                   turn_house)
from tongueyard.houses import House
from tongueyard.instances import reckoned_tree
from tongueyard.pages import Numbers
from tongueyard.printing import printed
from tongueyard.reading import dead_paper, nth_shape, reading_paper


class Bench:
    def __init__(self):
        self._diary = Diary()
        self._numbers = Numbers(1, 1)
        self._houses = [House({}, {})]
        self._at = 0
        # What stood ahead of the last step.
        self._ahead = self._houses[0]
        self._spared = []

    def house(self):
        """What stands now."""
        return self._houses[self._at]

    def take(self, made):
        """Takes the step to a new house, None where it is no step, and tells what is told with it."""
        house, told = made
        if house is not None:
            self._ahead = self.house()
            self._spared = []
            del self._houses[self._at + 1:]
            self._houses.append(house)
            self._at += 1
        return told

    def founded(self, name, grammar):
        return self._diary.kept("founded", lambda: self.take(found(self.house(), name, grammar)))

    def summed(self, name, marks, sums):
        self._diary.kept("summed", lambda: self.take(give_tally(self.house(), name, marks, sums)))

    def unsummed(self, name):
        self._diary.kept("unsummed", lambda: self.take(take_tally(self.house(), name)))

    def laid_out(self, name, marks):
        self._diary.kept("laid_out", lambda: self.take(lay_out(self.house(), name, marks)))

    def turn(self, name, deeds):
        return self._diary.kept("turn", lambda: self.take_turn(name, deeds))

    def take_turn(self, name, deeds):
        number, spared = self.take(turn_house(self.house(), self._numbers, name, deeds))
        self._spared = spared
        return number

    def opened(self, name, grammar, text, *, still=False):
        self._diary.kept("opened", lambda: self.take(put_document(self.house(), self._numbers, name, grammar, text,
                                                                  still)))

    def closed(self, name):
        self._diary.kept("closed", lambda: self.take(close(self.house(), name)))

    def edit(self, name, at, *, gone=0, put=""):
        self._diary.kept("edit", lambda: self.take_edit(name, edited(self.page_of(name), at, gone, put, LIMIT)))

    def edits(self, name, rows):
        self._diary.kept("edits", lambda: self.take_edit(name, edited_often(self.page_of(name), rows, LIMIT)))

    def take_edit(self, name, draft):
        self.take(take_draft(self.house(), self._numbers, name, draft))

    def lead(self, name):
        self._diary.kept("lead", lambda: self.take(lead_document(self.house(), self._numbers, name)))

    def mend(self, name):
        return self._diary.kept("mend", lambda: self.take(mend_document(self.house(), self._numbers, name)))

    def undo(self):
        self._diary.kept("undo", lambda: self.move_by(-1, "undo"))

    def redo(self):
        self._diary.kept("redo", lambda: self.move_by(1, "redo"))

    def move_by(self, many, word):
        """Goes on to a step that was done, or back from one."""
        if not 0 <= self._at + many < len(self._houses):
            raise NoStep(word)
        self._ahead = self.house()
        self._spared = []
        self._at = self._at + many

    def tongues(self):
        return sorted(self.house().grammars)

    def docs(self):
        return sorted(self.house().leaves)

    def versions(self, name):
        return len(self.house().grammar_versions(name))

    def grammar_of(self, name, *, version=None):
        return self.house().version_at(name, version).grammar

    def sums_of(self, name, *, version=None):
        return self.house().version_at(name, version).tally

    def layout_of(self, name, *, version=None):
        return self.house().version_at(name, version).layout

    def bridge_of(self, name, version):
        versions = self.house().grammar_versions(name)
        if not 1 <= version < len(versions):
            raise NoVersion(version)
        return versions[version].bridge

    def about(self, name):
        leaf = self.house().leaf_of(name)
        return leaf.home, leaf.number, leaf.is_still

    def page_of(self, name):
        return self.house().leaf_of(name).page

    def document(self, name):
        page = self.page_of(name)
        told = Document(page.reader)
        told.take_over(page, self._numbers.twin())
        return told

    def print_of(self, name, *, width=None):
        leaf = self.house().leaf_of(name)
        return printed(self.house().version_of(leaf).layout, leaf.page.tree_told(), width=width)

    def worths_of(self, name):
        return worths_told(self.house(), self.house().leaf_of(name))

    def hangs_of(self, name):
        page = self.page_of(name)
        page.need_reading()
        return [label for label in page.reader.grammar_read().labels() if label in page.reading.shape]

    def papers_of(self, name):
        page = self.page_of(name)
        return [(page.reader.parts_read().plain(), paper) for paper in papers_told(page)]

    def spared(self):
        return list(self._spared)

    def changed(self):
        return [name for name in self.docs() if seen(self.house(), name) != seen(self._ahead, name)]

    def is_busy(self):
        return self._diary.is_on()

    def entries(self):
        return self._diary.rows_so_far()

    def __eq__(self, other):
        return isinstance(other, Bench) and told_of(self.house()) == told_of(other.house())

    def __len__(self):
        return len(self.house().leaves)

    def __repr__(self):
        return f"Bench({len(self.house().leaves)})"


def worths_told(house, leaf):
    """The worths of a document's tree, None where its version has no tally."""
    leaf.page.need_reading()
    version = house.version_of(leaf)
    if version.tally is None:
        return None
    return reckoned_tree(version.grammar, version.tally, leaf.page.nodes_told(), ()).rows_told()


def papers_told(page):
    """The list of the papers of what a page's row reads to, or of where it stops."""
    plain = page.reader.parts_read().plain()
    row = tuple(page.row)
    stop = page.reading.stop
    if stop is not None:
        return [dead_paper(plain, row[:stop + 1]) if stop < len(row) else reading_paper(plain, row)]
    papers = [("tree", row, page.reader.parts_read().led_in(page.reading.shape))]
    if page.reader.has_table():
        papers.append(("table", page.reader.table_read()))
    elif page.reading.many > 1:
        papers.append(("two", row, nth_shape(plain, row, 0), nth_shape(plain, row, 1)))
    return papers


def seen(house, name):
    """What is seen of a document, None where there is none."""
    if name not in house.leaves:
        return None
    leaf = house.leaves[name]
    page = leaf.page
    words = [word[0] for word in page.words]
    if not page.reads():
        return page.text, words, page.stop_told()
    try:
        worths = worths_told(house, leaf)
    except RoundWorths:
        worths = "round"
    return page.text, words, list(page.last.numbers), worths


def told_of(house):
    """What two houses must have alike to be equal."""
    grammars = {name: [(one.grammar, one.layout, one.tally) for one in versions]
                for name, versions in house.grammars.items()}
    leaves = {name: (leaf.home, leaf.number, leaf.is_still, leaf.page.text) for name, leaf in house.leaves.items()}
    return grammars, leaves
