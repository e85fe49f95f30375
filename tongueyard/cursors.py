"""Reading a text sign by sign, refusing it at the first sign with which nothing of its form goes on."""

from tongueyard.errors import NoText
from tongueyard.names import LETTERS, LONGEST, is_name
from tongueyard.patterns import SIGNS


class Cursor:
    """A text and the place up to which it is read."""

    def __init__(self, text):
        self.text = text
        self.at = 0

    def is_end(self):
        return self.at == len(self.text)

    def is_at(self, signs):
        """Whether the next sign is one of these."""
        return self.at < len(self.text) and self.text[self.at] in signs

    def take(self, signs):
        """Takes the next sign, which must be one of these."""
        if not self.is_at(signs):
            raise NoText(self.at)
        self.at += 1
        return self.text[self.at - 1]

    def need_end(self):
        if not self.is_end():
            raise NoText(self.at)

    def skip(self):
        """Takes blanks, line feeds and remarks, perhaps none."""
        while self.is_at("\n #"):
            if self.is_at("#"):
                row_end = self.text.find("\n", self.at)
                self.at = len(self.text) if row_end < 0 else row_end
            else:
                self.at += 1

    def take_sign(self, sign):
        """Takes a sign that stands alone, and what is skipped behind it."""
        self.take(sign)
        self.skip()

    def take_word(self, word):
        """Takes a word behind which a name comes, and what must be skipped between the two."""
        for letter in word:
            self.take(letter)
        if not self.is_at("\n #"):
            raise NoText(self.at)
        self.skip()

    def take_name(self):
        """Takes a name and what is skipped behind it: the name, its first place and the one behind it."""
        start = self.at
        self.take(LETTERS)
        while self.is_at(LETTERS) and self.at - start < LONGEST:
            self.at += 1
        behind = self.at
        name = self.text[start:behind]
        # A kept word, or a name as long as may be with one more letter behind it, is no name.
        if self.is_at(LETTERS) or not is_name(name):
            raise NoText(behind)
        self.skip()
        return name, start, behind

    def take_quoted(self, barred, stops):
        """Takes a sign, perhaps behind a \\, that is none of some barred; stops need a \\ ahead."""
        if self.is_at("\\"):
            # Where nothing that may stand behind it is left, the \\ itself is the wrong sign.
            escaped = [sign for sign in stops + "\\\n" if sign not in barred]
            if not escaped:
                raise NoText(self.at)
            self.at += 1
            letters = "".join(["n" if sign == "\n" else sign for sign in escaped])
            sign = self.take(letters)
            return "\n" if sign == "n" else sign
        if self.is_at("\n" + stops) or self.is_at(barred):
            raise NoText(self.at)
        return self.take(SIGNS)
