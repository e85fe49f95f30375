"""The desk: a bench to which rows of text are said, and which answers by texts."""

from tongueyard.bench import Bench
from tongueyard.deskrows import DEEDS, answer, read_row
from tongueyard.diaries import Diary
from tongueyard.errors import NoRow, NoText, Stopped, YardError


class Desk:
    def __init__(self):
        self._bench = Bench()
        self._diary = Diary()
        self._log = []

    def say(self, row):
        read = read_row(row)
        return self._diary.kept("" if read is None else read[0], lambda: self.said(row, read))

    def said(self, row, read):
        """What is answered to a row that is read, and keeps it where it is a deed."""
        if read is None:
            raise NoRow(row)
        told = answer(self._bench, read[0], read[1])
        if read[0] in DEEDS:
            self._log.append(row)
        return told

    def log(self):
        return list(self._log)

    def log_text(self):
        return "".join([row.replace("\\", "\\\\").replace("\n", "\\n") + "\n" for row in self._log])

    def is_busy(self):
        return self._diary.is_on()

    def entries(self):
        return self._diary.rows_so_far()

    def __eq__(self, other):
        return isinstance(other, Desk) and self._bench == other._bench

    def __len__(self):
        return len(self._log)

    def __repr__(self):
        return f"Desk({len(self._log)})"


def desk_of(rows):
    """A desk to which rows were said."""
    desk = Desk()
    for number, row in enumerate(rows):
        try:
            desk.say(row)
        except YardError as refusal:
            raise Stopped(number) from refusal
    return desk


def desk_from(text):
    """The desk of the rows that a text writes as log_text does."""
    rows = []
    signs = []
    is_escaped = False
    for at, sign in enumerate(text):
        if is_escaped:
            if sign not in "\\n":
                raise NoText(at)
            signs.append("\n" if sign == "n" else sign)
            is_escaped = False
        elif sign == "\\":
            is_escaped = True
        elif sign == "\n":
            rows.append("".join(signs))
            signs = []
        else:
            signs.append(sign)
    if is_escaped or signs:
        raise NoText(len(text))
    return desk_of(rows)
