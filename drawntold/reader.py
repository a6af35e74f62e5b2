"""A text that is read sign by sign: words, integers, numbers and fixed pieces."""

from drawntold.errors import InvalidText
from drawntold.fractions import fraction_told
from drawntold.values import LONGEST_WORD

MOST_DIGITS = 4
LETTERS = "abcdefghijklmnopqrstuvwxyz"
DIGITS = "0123456789"
NUMBER_SIGNS = "0123456789-./"


class Reader:
    """A text and how far it is read; InvalidText tells the first sign at which no form goes on."""

    def __init__(self, text):
        if type(text) != str:
            raise InvalidText(0)
        self.text = text
        self.at = 0

    def finish(self):
        """Raises InvalidText unless all is read."""
        if self.at < len(self.text):
            raise InvalidText(self.at)

    def is_before(self, piece):
        """Whether a piece stands next."""
        return self.text.startswith(piece, self.at)

    def passes(self, sign):
        """Whether a sign stands next, which is then read."""
        if not self.is_before(sign):
            return False
        self.at += 1
        return True

    def skip(self, piece):
        """Reads a piece that has to stand next."""
        self.chosen((piece,))

    def chosen(self, pieces):
        """Reads the longest of the pieces that stands next."""
        found = [piece for piece in pieces if self.is_before(piece)]
        if not found:
            raise InvalidText(self.at + max([self._common(piece) for piece in pieces]))
        piece = max(found, key=len)
        self.at += len(piece)
        return piece

    def read_word(self):
        """Reads a word; a sign behind its eighth letter is no more of it."""
        return self._some(LETTERS, LONGEST_WORD)

    def read_count(self):
        """Reads an integer of 1 to 4 digits."""
        if self.passes("0"):
            return 0
        return int(self._some(DIGITS, MOST_DIGITS))

    def read_integer(self):
        """Reads an integer of 1 to 4 digits, perhaps with a sign ahead."""
        if not self.passes("-"):
            return self.read_count()
        if self.is_before("0"):
            raise InvalidText(self.at)
        return -self.read_count()

    def read_value(self):
        """Reads a word or an integer."""
        return self.read_word() if self.is_before_letter() else self.read_integer()

    def is_before_letter(self):
        """Whether a letter stands next."""
        return self._length(LETTERS, 1) == 1

    def read_number(self):
        """Reads the text of a fraction, of all signs that such texts have."""
        length = self._length(NUMBER_SIGNS, len(self.text))
        try:
            number = fraction_told(self.text[self.at:self.at + length])
        except InvalidText as wrong:
            raise InvalidText(self.at + wrong.index)
        self.at += length
        return number

    def _some(self, signs, most):
        """Reads as many of these signs as stand next, up to the most; one at least."""
        length = self._length(signs, most)
        if length == 0:
            raise InvalidText(self.at)
        self.at += length
        return self.text[self.at - length:self.at]

    def _length(self, signs, most):
        """How many of these signs stand next, up to the most."""
        end = min(self.at + most, len(self.text))
        length = 0
        while self.at + length < end and self.text[self.at + length] in signs:
            length += 1
        return length

    def _common(self, piece):
        """With how many of its signs a piece that does not stand next begins to."""
        length = 0
        while self.text[self.at:self.at + length + 1] == piece[:length + 1]:
            length += 1
        return length
