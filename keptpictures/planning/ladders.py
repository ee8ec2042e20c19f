"""Ladders: what rows of numbers cost with several presets at once."""

from keptpictures.codes.table import Table


class Ladders:
    """Some presets for one modulus; what a number costs is kept, as the same numbers come again and again."""

    def __init__(self, modulus, presets):
        tables = [Table.preset(number, modulus) for number in presets]
        self._firsts = [number // 2 for number in presets]
        self._rungs = [[length + width for length, width in table.rungs] for table in tables]
        self._repetitions = [(table.repetition_price(), table.most_repeated()) for table in tables]
        self._literals = {}
        self._runs = {}

    def row_bits(self, numbers):
        """Return the price of the numbers, of which there is at least one, with each preset."""
        parts = []
        before = 0
        run = 0
        for number in numbers:
            if number == before:
                run += 1
            else:
                parts.append(self._run_bits(before, run))
                parts.append(self._literal_bits(number))
                before = number
                run = 0
        parts.append(self._run_bits(before, run))
        return [sum(column) for column in zip(*parts)]

    def _literal_bits(self, number):
        """Return the price of the number alone with each preset."""
        if number not in self._literals:
            # Rung number i of a ladder with the first width k starts at (2 ** i - 1) * 2 ** k.
            places = [((number >> first) + 1).bit_length() for first in self._firsts]
            self._literals[number] = [prices[min(place, len(prices)) - 1] for place, prices in zip(places, self._rungs)]
        return self._literals[number]

    def _run_bits(self, number, run):
        """Return the price of so many more of the number before with each preset."""
        if (number, run) not in self._runs:
            prices = []
            for literal, (again, most) in zip(self._literal_bits(number), self._repetitions):
                prices.append(run_price(literal, again, most, run))
            self._runs[(number, run)] = prices
        return self._runs[(number, run)]


def run_price(literal, again, most, run):
    """Return the fewest bits of so many equal numbers, where a repetition of at most so many has the bits `again`."""
    # A full repetition may not be worth its bits; if there is none at all, both sides are 0.
    if again >= most * literal:
        return run * literal
    full, rest = divmod(run, most)
    return full * again + min(again, rest * literal)
