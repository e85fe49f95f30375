"""Documents: texts whose words and nodes last while the text is edited."""

from tongueyard.diaries import Diary
from tongueyard.drafts import edited, edited_often, places_cut_again, words_with
from tongueyard.errors import NoNode, NoRoom, NoSpan, NoStep
from tongueyard.pages import Numbers, Page

LIMIT = 200


class Document:
    def __init__(self, reader, text="", *, limit=LIMIT):
        if len(text) > limit:
            raise NoRoom(len(text))
        self._reader = reader
        self._limit = limit
        self._diary = Diary()
        self._numbers = Numbers(1, 1)
        page = Page(reader, text, words_with(reader.cut(text), {}))
        page.number_by(None, self._numbers)
        self.take_over(page, self._numbers)

    def take_over(self, page, numbers):
        """Takes a page as the one that there is, with nothing to undo, and the next numbers."""
        self._numbers = numbers
        self._pages = [page]
        self._at = 0
        self._ahead = None

    def page_now(self):
        return self._pages[self._at]

    def text_now(self):
        return self.page_now().text

    def words_now(self):
        return list(self.page_now().words)

    def tree_now(self):
        return self.page_now().tree_told()

    def many_now(self):
        return self.page_now().many_told()

    def nodes_now(self):
        return self.page_now().nodes_told()

    def stop_now(self):
        return self.page_now().stop_told()

    def edit(self, at, *, gone=0, put=""):
        self._diary.kept("edit", lambda: self.step_to(edited(self.page_now(), at, gone, put, self._limit)))

    def edits(self, rows):
        self._diary.kept("edits", lambda: self.step_to(edited_often(self.page_now(), rows, self._limit)))

    def step_to(self, draft):
        """Takes the step to a draft, where it was changed at all."""
        if draft.is_changed:
            page = draft.made_page()
            page.number_by(self.page_now().last, self._numbers)
            self._ahead = self.page_now()
            del self._pages[self._at + 1:]
            self._pages.append(page)
            self._at += 1

    def undo(self):
        self._diary.kept("undo", lambda: self.move_by(-1, "undo"))

    def redo(self):
        self._diary.kept("redo", lambda: self.move_by(1, "redo"))

    def move_by(self, many, word):
        """Goes on to a step that was done, or back from one."""
        if not 0 <= self._at + many < len(self._pages):
            raise NoStep(word)
        self._ahead = self.page_now()
        self._at = self._at + many

    def cut_again(self, at, *, gone=0, put=""):
        return places_cut_again(self.page_now(), at, gone, put, self._limit)

    def change_now(self):
        words = [word[0] for word in self._ahead.words] if self._ahead is not None else []
        nodes = last_numbers(self._ahead)
        new_words = [word[0] for word in self.page_now().words]
        new_nodes = last_numbers(self.page_now())
        went = without(words, new_words), without(nodes, new_nodes)
        came = without(new_words, words), without(new_nodes, nodes)
        return went[0], came[0], went[1], came[1]

    def span_of(self, number):
        return self.page_now().spans[self.need_node(number)]

    def home_of(self, number):
        at = self.need_node(number)
        last = self.page_now().last
        above = last.nodes[at][0]
        return None if above is None else last.numbers[above]

    def over(self, place):
        page = self.page_now()
        page.need_reading()
        if not 0 <= place < len(page.text):
            raise NoSpan((place, 1))
        found = None
        for number, (start, behind) in zip(page.last.numbers, page.spans):
            if start <= place < behind:
                found = number
        return found

    def need_node(self, number):
        """The place of a node in the shape; refuses a number that no node of the tree has."""
        at = self.page_now().place_of_node(number)
        if at is None:
            raise NoNode(number)
        return at

    def is_busy(self):
        return self._diary.is_on()

    def entries(self):
        return self._diary.rows_so_far()

    def __eq__(self, other):
        return (isinstance(other, Document) and self.text_now() == other.text_now()
                and self._reader.grammar_read() == other._reader.grammar_read())

    def __len__(self):
        return len(self.text_now())

    def __repr__(self):
        return f"Document({len(self.page_now().words)})"


def last_numbers(page):
    """The list of the numbers of the nodes of a page's last tree, none where there is no page or tree."""
    return [] if page is None or page.last is None else page.last.numbers


def without(numbers, others):
    """The rising list of the numbers that are not among some others."""
    known = {number: True for number in others}
    return sorted([number for number in numbers if number not in known])
