"""All files with a small head and some codes, to compare readers with."""

from itertools import permutations, product

from keptpictures.filters.lanes import sheet_of_numbers
from tests.codes_by_hand import binary, coded_lanes
from tests.files_by_hand import (bytes_of, code_by_hand, lanes_by_hand, packed_by_hand, palette_by_hand, spare_by_hand,
                                 spares_by_hand, table_by_hand)


def moduli_of(depths, colours):
    return [colours] if colours else [2 ** depth for depth in depths]


def sheets_so_far(width, height, word, moduli, filters, numbers):
    """Return the rows of the sheets, with the number 0 in all lanes that are still to come."""
    sheets = []
    for z, modulus in enumerate(moduli):
        own = list(zip(filters, numbers))[z::len(moduli)]
        sheet = sheet_of_numbers(modulus, width, height, word, [pair[0] for pair in own], [pair[1] for pair in own])
        sheets.append(sheet.rows)
    return sheets


class Files:
    """All files with this head and these codes: a dict from each to (palette, sheets, chunks of the plan)."""

    def __init__(self, width, height, depths, mask=False, *, colours=0, word="", spares=0, codes):
        self.width, self.height, self.word, self.spares = width, height, word, spares
        self.moduli = moduli_of(depths, colours)
        self.lanes = lanes_by_hand(width, height, word, len(self.moduli))
        self.codes = codes
        letters = ["ad".index(letter) for letter in word]
        head = (width, height, len(depths), int(mask), *depths, colours, len(word), *letters, spares)
        self.coded = {}
        self.known = {}
        for palette in self.palettes(depths, colours):
            front = [(0, head)] + ([] if palette is None else [(1, palette_by_hand(palette, depths))])
            for chunks, planned, filters, numbers in self.rest(front, (), (), ()):
                sheets = sheets_so_far(width, height, word, self.moduli, filters, numbers)
                self.known[bytes_of(chunks + [(4, ())])] = palette, sheets, planned
        self.begun = {}
        for data in self.known:
            for at, byte in enumerate(data):
                self.begun.setdefault(data[:at], set()).add(byte)

    def palettes(self, depths, colours):
        if not colours:
            return [None]
        return list(permutations(product(*[range(2 ** depth) for depth in depths]), colours))

    def lanes_coded(self, lane, code):
        """Return all coded lanes with their numbers."""
        _, _, columns, z = self.lanes[lane]
        if (len(columns), z, code) not in self.coded:
            rungs, repeat = table_by_hand(code, self.moduli[z])
            self.coded[len(columns), z, code] = coded_lanes(len(columns), self.moduli[z], rungs, repeat)
        return self.coded[len(columns), z, code]

    def rest(self, chunks, planned, filters, numbers):
        """Yield all ways to go on: (chunks, chunks of the plan, filters, numbers)."""
        first = len(numbers)
        if first == len(self.lanes):
            yield chunks, planned, filters, numbers
            return
        own = self.lanes[first][0]
        left = sum(lane[0] == own for lane in self.lanes[first:])
        for count in range(1, left + 1):
            for code in self.codes:
                front = (0, first, count) + code_by_hand(code)
                for kinds in product(range(8), repeat=count):
                    choices = [self.lanes_coded(lane, code).items() for lane in range(first, first + count)]
                    for coded in product(*choices):
                        bits = "".join(binary(kind, 3) + lane for kind, (lane, _) in zip(kinds, coded))
                        more = numbers + tuple(row for _, row in coded)
                        added = [(2, front + packed_by_hand(bits))]
                        if count == left and self.spares:
                            sheets = sheets_so_far(self.width, self.height, self.word, self.moduli,
                                                   filters + kinds, more)
                            rows = spares_by_hand(sheets, self.moduli, self.word, own, self.spares)
                            added.append((3, spare_by_hand(own, rows, self.moduli)))
                        yield from self.rest(chunks + added, planned + ((count, code, kinds),), filters + kinds, more)

    def open_places(self, data):
        """Return the places at which a file may go on in ways that are not among these: in its head and its codes."""
        marks = [at for at, byte in enumerate(data) if byte >= 128]
        places = set(range(marks[1] - 3))
        codes = [code for _, code, _ in self.known[data][2]]
        for mark, code in zip([mark for mark in marks if data[mark] == 130], codes):
            places |= set(range(mark + 4, mark + 4 + len(code_by_hand(code))))
        return places

    def closed_beginnings(self):
        """Return the beginnings of these files, from the end of the head on, that do not end within an own table."""
        closed = set()
        for data in self.known:
            places = self.open_places(data)
            closed |= {data[:at] for at in range(len(data)) if at not in places or data[at - 4] == 130}
        return sorted(closed)

    def place_of(self, data):
        """Return the least place at which no file of these begins so, the length if it is a beginning, or None."""
        for at, byte in enumerate(data):
            if byte not in self.begun.get(data[:at], ()):
                return at
        return None if data in self.known else len(data)

    def least(self, data):
        """Return the least file that begins so."""
        while data in self.begun:
            data += (min(self.begun[data]),)
        return data
