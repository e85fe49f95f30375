"""Diaries of deeds: which are begun and done, and whether one is on."""


class Diary:
    def __init__(self):
        self._rows = []
        self._on = False

    def kept(self, word, deed):
        """Does a deed without arguments, called by a word, and tells what it tells."""
        self._rows.append(("in", word))
        self._on = True
        try:
            return deed()
        finally:
            self._on = False
            self._rows.append(("out", word))

    def is_on(self):
        return self._on

    def rows_so_far(self):
        """The list of ("in", word) and ("out", word) of all deeds so far."""
        return list(self._rows)
