"""Edits of texts: made least, done one behind the other, and what of the words stays."""

from tongueyard.errors import NoRoom, NoSpan, Stopped
from tongueyard.pages import Page


def least_edit(text, at, gone, put, limit):
    """An edit (at, gone, put) made least; refuses what is no span of the text, and what has no room."""
    if at < 0 or gone < 0 or at + gone > len(text):
        raise NoSpan((at, gone))
    many = len(text) - gone + len(put)
    if many > limit:
        raise NoRoom(many)
    while gone > 0 and put != "" and text[at] == put[0]:
        at += 1
        gone -= 1
        put = put[1:]
    while gone > 0 and put != "" and text[at + gone - 1] == put[-1]:
        gone -= 1
        put = put[:-1]
    return at, gone, put


def edited_text(text, at, gone, put):
    return text[:at] + put + text[at + gone:]


class Draft:
    """A page that is being edited: its text and words, those that are new without numbers yet."""

    def __init__(self, page):
        self.text = page.text
        self.words = page.words
        self.is_changed = False
        self._reader = page.reader

    def edit(self, at, gone, put, limit):
        """Does one edit; refuses it as least_edit does."""
        at, gone, put = least_edit(self.text, at, gone, put, limit)
        if gone > 0 or put != "":
            self.is_changed = True
            self.text = edited_text(self.text, at, gone, put)
            stays = staying(self.words, at, gone, len(put))
            self.words = words_with(self._reader.cut(self.text), stays)

    def made_page(self):
        """The page of the draft, its new words without numbers."""
        return Page(self._reader, self.text, self.words)


def staying(words, at, gone, put):
    """A dict from (kind, place, length) to numbers of the words that an edit leaves as they are."""
    found = {}
    for number, kind, text, place, _ in words:
        if place + len(text) <= at:
            found[(kind, place, len(text))] = number
        elif place >= at + gone:
            found[(kind, place + put - gone, len(text))] = number
    return found


def words_with(cut, stays):
    """Words that were cut, with the numbers of those that stay, and None for the others."""
    return tuple([(stays.get((kind, place, len(text))), kind, text, place, look) for kind, text, place, look in cut])


def edited(page, at, gone, put, limit):
    """The draft of a page behind one edit."""
    draft = Draft(page)
    draft.edit(at, gone, put, limit)
    return draft


def edited_often(page, rows, limit):
    """The draft of a page behind several edits; refuses with the number of the first refused one."""
    draft = Draft(page)
    for number, (at, gone, put) in enumerate(rows):
        try:
            draft.edit(at, gone, put, limit)
        except (NoSpan, NoRoom) as refusal:
            raise Stopped(number) from refusal
    return draft


def places_cut_again(page, at, gone, put, limit):
    """(from, behind): the places in the edited text between which alone words need be cut again."""
    at, gone, put = least_edit(page.text, at, gone, put, limit)
    if gone == 0 and put == "":
        return 0, 0
    looked = [place for _, _, _, place, look in page.words if place + look > at]
    text = edited_text(page.text, at, gone, put)
    growth = len(put) - gone
    old_places = {place + growth: True for _, _, _, place, _ in page.words}
    for _, _, place, _ in page.reader.cut(text):
        if place >= at + len(put) and place in old_places:
            return (looked + [at])[0], place
    return (looked + [at])[0], len(text)
