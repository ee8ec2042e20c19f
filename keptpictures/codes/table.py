"""Tables: which bits stand for which numbers."""

from keptpictures.codes.bits import bits_of
from keptpictures.errors import BadTable, NoRung


def width_of(modulus):
    """Return the least number of bits in which all numbers below the modulus can be told apart."""
    greatest = modulus - 1
    return greatest.bit_length()


class Table:
    """Rungs of numbers and perhaps a repeat, with their codewords, which never change."""

    LONGEST = 15

    def __init__(self, rungs, repeat=None):
        if not can_be_table(rungs, repeat):
            raise BadTable()
        self.rungs = tuple(rungs)
        self.repeat = repeat
        self.starts = rung_starts(self.rungs)
        self.total = self.starts[-1] + (1 << self.rungs[-1][1])
        self.words = codewords([length for length, _ in entries_of(self.rungs, repeat)])

    def __eq__(self, other):
        return isinstance(other, Table) and self.rungs == other.rungs and self.repeat == other.repeat

    def literal(self, number):
        """Return the bits that stand for the number."""
        place = self.rung_of(number)
        return self.words[place] + bits_of(number - self.starts[place], self.rungs[place][1])

    def rung_of(self, number):
        """Return the number of the rung that covers the number."""
        if not 0 <= number < self.total:
            raise NoRung(number)
        place = len(self.starts) - 1
        while self.starts[place] > number:
            place -= 1
        return place

    def literal_price(self, number):
        """Return how many bits stand for the number."""
        length, width = self.rungs[self.rung_of(number)]
        return length + width

    def repetition(self, number):
        """Return the bits that stand for so many more of the number before."""
        if not 1 <= number <= self.most_repeated():
            raise NoRung(number)
        return self.words[-1] + bits_of(number - 1, self.repeat[1])

    def most_repeated(self):
        """Return the greatest number that has a repetition, or 0 if none has."""
        return 0 if self.repeat is None else 1 << self.repeat[1]

    def repetition_price(self):
        """Return how many bits each repetition has, or 0 if there is none."""
        return 0 if self.repeat is None else self.repeat[0] + self.repeat[1]

    def serves(self, modulus):
        """Tell whether the table covers all numbers below the modulus and has no rung for others alone."""
        return self.starts[-1] < modulus <= self.total

    @staticmethod
    def ladder(first, repeats, modulus):
        """Return the table of ever wider rungs that covers the numbers below the modulus."""
        widths = ladder_widths(first, modulus)
        if not repeats:
            return Table(list(zip(ladder_lengths(len(widths)), widths)))
        lengths = ladder_lengths(len(widths) + 1)
        return Table(list(zip(lengths[:1] + lengths[2:], widths)), (lengths[1], 3))

    @staticmethod
    def preset(number, modulus):
        """Return the ladder with this number for the modulus."""
        return Table.ladder(number // 2, number % 2 == 1, modulus)


def entries_of(rungs, repeat):
    """Return the list of the rungs and, behind them, the repeat if there is one."""
    return list(rungs) if repeat is None else [*rungs, repeat]


def can_be_table(rungs, repeat):
    """Tell whether rungs and a repeat make a table."""
    if not 1 <= len(rungs) <= 15:
        return False
    if not all([0 <= width <= 16 for _, width in rungs]):
        return False
    if repeat is not None and not 0 <= repeat[1] <= 5:
        return False
    return are_complete([length for length, _ in entries_of(rungs, repeat)])


def are_complete(lengths):
    """Tell whether there are codewords of these lengths that leave no bits without a meaning."""
    if not all([0 <= length <= Table.LONGEST for length in lengths]):
        return False
    return sum([1 << (Table.LONGEST - length) for length in lengths]) == 1 << Table.LONGEST


def rung_starts(rungs):
    """Return the least number that each rung covers."""
    starts = [0]
    for _, width in rungs[:-1]:
        starts.append(starts[-1] + (1 << width))
    return tuple(starts)


def codewords(lengths):
    """Return the codewords with these lengths, which are complete."""
    words = [""] * len(lengths)
    value = 0
    before = 0
    for length, place in sorted([(length, place) for place, length in enumerate(lengths)]):
        value = value << (length - before)
        words[place] = bits_of(value, length)
        value += 1
        before = length
    return tuple(words)


def ladder_widths(first, modulus):
    """Return the widths of the rungs of a ladder."""
    widths = []
    start = 0
    width = first
    while start + (1 << width) < modulus and len(widths) < 11:
        widths.append(width)
        start += 1 << width
        width += 1
    widths.append(width_of(modulus - start))
    return widths


def ladder_lengths(many):
    """Return the lengths of so many entries of a ladder, in their order."""
    return [place + 1 for place in range(many - 1)] + [many - 1]
