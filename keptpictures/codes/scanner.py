"""Scanners: coded lanes, read bit by bit."""

from keptpictures.codes.tokens import numbers_of
from keptpictures.errors import BadBits


class Scanner:
    """Takes the bits of one coded lane, and tells the numbers that are whole."""

    def __init__(self, count, modulus, table):
        self._modulus = modulus
        self._table = table
        self._left = count
        self._tokens = []
        self._used = 0
        if table.rungs == ((0, 0),):
            # No bit will ever come: the lane is whole as it is.
            self._tokens = [("one", 0)] * count
            self._left = 0
        self._begin_token()

    @property
    def done(self):
        """Tell whether the lane is whole."""
        return self._left == 0

    @property
    def numbers(self):
        """Return the numbers of the tokens that are whole."""
        return numbers_of(self._tokens)

    @property
    def used(self):
        """Return how many bits are taken."""
        return self._used

    def feed(self, bits):
        """Take bits until the lane is whole, and return how many of them were taken."""
        taken = 0
        for bit in bits:
            if self.done:
                break
            self._take(bit)
            taken += 1
        return taken

    def accepts(self, bit):
        """Tell whether a coded lane begins with the bits taken and this one."""
        return len(self._entries_with(bit)) > 0

    def copied(self):
        """Return a scanner that has taken the same bits and goes on by itself."""
        other = Scanner(0, self._modulus, self._table)
        other._left = self._left
        other._tokens = list(self._tokens)
        other._used = self._used
        other._part = self._part
        other._entries = self._entries
        return other

    def _entries_with(self, bit):
        """Return those entries of the table that the token can still have with this bit."""
        part = self._part + bit
        return [entry for entry in self._entries if begins_token(part, entry)]

    def _take(self, bit):
        """Take one bit."""
        entries = self._entries_with(bit)
        if not entries:
            raise BadBits(self._used)
        self._part = self._part + bit
        self._entries = entries
        self._used += 1
        word, width, _, _, _ = entries[0]
        if len(self._part) == len(word) + width:
            self._end_token()

    def _begin_token(self):
        """Make ready for the first bit of a token, or for the end of the lane."""
        self._part = ""
        self._entries = usable_entries(self._table, self._modulus, self._left) if self._left > 0 else []

    def _end_token(self):
        """Note the token whose last bit was taken."""
        word, _, kind, first, _ = self._entries[0]
        number = first + int("0" + self._part[len(word):], 2)
        self._tokens.append((kind, number))
        self._left -= 1 if kind == "one" else number
        self._begin_token()


def usable_entries(table, modulus, left):
    """Return (codeword, width, kind, first, many) for each entry that a token can have where so many numbers are left.

    Behind the codeword stands a number less than `many` in `width` places; with `first` added it is the token's number.
    """
    entries = []
    # The codeword of a repeat stands behind those of the rungs, where zip stops.
    for word, start, rung in zip(table.words, table.starts, table.rungs):
        if start < modulus:
            entries.append((word, rung[1], "one", start, modulus - start))
    if table.repeat is not None:
        entries.append((table.words[-1], table.repeat[1], "again", 1, left))
    return entries


def begins_token(part, entry):
    """Tell whether one of the tokens for which the entry is used begins with these bits."""
    word, width, _, _, many = entry
    if word.startswith(part):
        return True
    if not part.startswith(word):
        return False
    rest = part[len(word):]
    least = int(rest, 2) << (width - len(rest))
    return least < many


def read_lane(bits, count, modulus, table):
    """Return the numbers of the coded lane at the front of the bits, and how many bits it has."""
    scanner = Scanner(count, modulus, table)
    scanner.feed(bits)
    if not scanner.done:
        raise BadBits(len(bits))
    return (scanner.numbers, scanner.used)


def complete_lane(bits, count, modulus, table):
    """Return the least coded lane that begins with the bits."""
    scanner = Scanner(count, modulus, table)
    taken = scanner.feed(bits)
    if taken < len(bits):
        raise BadBits(taken)
    added = []
    while not scanner.done:
        bit = "0" if scanner.accepts("0") else "1"
        scanner.feed(bit)
        added.append(bit)
    return bits + "".join(added)
