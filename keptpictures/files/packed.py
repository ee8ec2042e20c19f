"""Packed bits: what takes them, seven with each number."""

from keptpictures.codes.bits import bits_of
from keptpictures.codes.packing import PLACES
from keptpictures.codes.scanner import Scanner
from keptpictures.errors import BadBits


class Packed:
    """A source takes the bits of each number until it is done; the bits behind that are zeros."""

    def __init__(self, source):
        self.source = source

    def is_whole(self):
        """Tell whether no number is missing."""
        return self.source.is_done()

    def take(self, number):
        """Take the number, or return False if nothing goes on with it."""
        if self.is_whole() or not 0 <= number < 128:
            return False
        # The bits before a wrong one must not stay taken, so they are tried on a copy.
        trial = self.source.copied()
        for bit in bits_of(number, PLACES):
            if not (bit == "0" if trial.is_done() else trial.take(bit)):
                return False
        self.source = trial
        return True

    def least(self):
        """Return the least number that can be taken."""
        trial = self.source.copied()
        bits = []
        for _ in range(PLACES):
            if trial.is_done() or trial.take("0"):
                bits.append("0")
            else:
                trial.take("1")
                bits.append("1")
        return int("".join(bits), 2)


class RowBits:
    """The bits of rows of numbers, each of which is a coded lane."""

    def __init__(self, fields):
        """Begin before the first row; each field is the (count, modulus, table) of a row."""
        self.rows = []
        self._fields = fields
        self._scanner = self._next_scanner()
        self._end_rows()

    def is_done(self):
        """Tell whether all rows are whole."""
        return self._scanner is None

    def take(self, bit):
        """Take the bit, or return False if no rows go on with it."""
        try:
            self._scanner.feed(bit)
        except BadBits:
            return False
        self._end_rows()
        return True

    def copied(self):
        """Return a source that has taken the same bits and goes on by itself."""
        other = RowBits([])
        other.rows = list(self.rows)
        other._fields = self._fields
        other._scanner = None if self._scanner is None else self._scanner.copied()
        return other

    def _next_scanner(self):
        """Return the scanner for the row behind the whole ones, or None behind the last one."""
        if len(self.rows) == len(self._fields):
            return None
        count, modulus, table = self._fields[len(self.rows)]
        return Scanner(count, modulus, table)

    def _end_rows(self):
        """Note the rows that are whole; some need no bits."""
        while self._scanner is not None and self._scanner.done:
            self.rows.append(self._scanner.numbers)
            self._scanner = self._next_scanner()
