"""The words of a piece of a line, read one behind the other."""

from endonce.errors import BadLine
from endonce.kinds import is_letters, is_name, is_text

DIGITS = "0123456789"
MOST_DIGITS = 12


class Words:
    """A place in a row of words; what is not written as it must be is a BadLine of this number."""

    def __init__(self, number, text):
        self.number = number
        self.row = text.split(" ")
        self.at = 0

    def peek(self):
        """The word that comes next; "" behind the last one."""
        return self.row[self.at] if self.at < len(self.row) else ""

    def next_word(self):
        """The word that comes next, which is then read."""
        if self.at == len(self.row):
            raise BadLine(self.number)
        self.at += 1
        return self.row[self.at - 1]

    def rest(self):
        """All words that come next, which are then read."""
        words = self.row[self.at:]
        self.at = len(self.row)
        return words

    def expect(self, fits):
        """Refuse the line unless what was read fits."""
        if not fits:
            raise BadLine(self.number)

    def finish(self):
        """Refuse the line if a word is left."""
        self.expect(self.at == len(self.row))

    def next_truth(self, yes, no):
        """True or False, as the word that comes next is the one or the other of these."""
        word = self.next_word()
        self.expect(word in (yes, no))
        return word == yes

    def next_name(self):
        """The NAME that comes next."""
        word = self.next_word()
        self.expect(is_name(word))
        return word

    def next_text(self):
        """The TEXT that comes next."""
        word = self.next_word()
        self.expect(is_text(word))
        return word

    def next_letters(self):
        """The letters that come next, one at least."""
        word = self.next_word()
        self.expect(is_letters(word, 1))
        return word

    def next_number(self, least):
        """The number that comes next, not below least."""
        return self.number_in(self.next_word(), least)

    def next_signed(self):
        """The number behind the sign with which the word that comes next begins."""
        return self.number_in(self.next_word()[1:], 0)

    def number_in(self, digits, least):
        """The number with these digits, not below least."""
        self.expect(0 < len(digits) <= MOST_DIGITS and all([digit in DIGITS for digit in digits]))
        self.expect(digits == "0" or digits[0] != "0")
        self.expect(int(digits) >= least)
        return int(digits)
