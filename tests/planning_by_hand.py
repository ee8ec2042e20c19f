"""Families of plans, gone through one by one, to compare the program with."""

from itertools import product

from keptpictures.codes.table import Table
from keptpictures.codes.tokens import price
from keptpictures.errors import TooMany
from keptpictures.files.bodies import body_of
from keptpictures.files.plan import Plan
from keptpictures.files.writer import write_file
from keptpictures.filters.lanes import sheet_numbers
from keptpictures.palettes.orders import palette_of
from tests.files_by_hand import lanes_by_hand, width_by_hand

CAREFUL = (0, 1, 6)


def presets_of(body):
    return range(2 * width_by_hand(max(sheet.modulus for sheet in body)) + 2)


def numbers_by_filter(body, word):
    """Return the numbers of all lanes with each filter: a list of eight lists."""
    tracks = len(lanes_by_hand(body[0].width, body[0].height, word, 1))
    found = []
    for kind in range(8):
        apart = [sheet_numbers(sheet, word, [kind] * tracks) for sheet in body]
        found.append([apart[lane % len(body)][lane // len(body)] for lane in range(tracks * len(body))])
    return found


class Stretches:
    """The prices of stretches of a body, each lane looked at once."""

    def __init__(self, body, word, careful=False):
        self.body, self.word, self.kinds = body, word, CAREFUL if careful else range(8)
        lanes = lanes_by_hand(body[0].width, body[0].height, word, len(body))
        self.lanes = lanes
        self.presets = presets_of(body)
        self.bits = {}
        numbers = numbers_by_filter(body, word)
        for preset in self.presets:
            tables = [Table.preset(preset, sheet.modulus) for sheet in body]
            for lane in range(len(lanes)):
                self.bits[lane, preset] = [3 + price(numbers[kind][lane], tables[lane % len(body)])
                                           for kind in self.kinds]

    def price(self, first, count, preset):
        bits = sum(min(self.bits[lane, preset]) for lane in range(first, first + count))
        return 8 + (bits + 6) // 7

    def least_filters(self, first, count, preset):
        rows = [self.bits[lane, preset] for lane in range(first, first + count)]
        return tuple(self.kinds[row.index(min(row))] for row in rows)

    def passes(self):
        """Return the pairs (first lane, end) of the passes, in order."""
        found, first = [], 0
        for number in range(len(self.word) + 1):
            many = sum(lane[0] == number for lane in self.lanes)
            found.append((first, first + many))
            first += many
        return found

    def all_cuts(self, first, end, careful=False):
        """Yield all rows of (count, preset) for the lanes from first to end - 1."""
        if first == end:
            yield ()
            return
        counts = [len(self.body)] if careful else range(1, min(100, end - first) + 1)
        for count, preset in product(counts, self.presets):
            for rest in self.all_cuts(first + count, end, careful):
                yield ((count, preset),) + rest

    def cuts_price(self, first, cuts):
        total = 0
        for count, preset in cuts:
            total += self.price(first, count, preset)
            first += count
        return total


def forms_by_hand(picture, orders):
    """Return the palettes of the orders that there are, as tuples of colours or None."""
    forms = []
    for order in orders:
        try:
            forms.append(None if order == "none" else palette_of(picture, order))
        except TooMany:
            pass
    return forms


def plans_by_hand(picture, orders, words, spares, careful=False):
    """Yield (place of the form, place of the word, key of the cuts, plan) of all plans with the best filters."""
    for place, palette in enumerate(forms_by_hand(picture, orders)):
        body = body_of(picture, palette)
        for at, word in enumerate(words):
            stretches = Stretches(body, word, careful)
            choices = [list(stretches.all_cuts(first, end, careful)) for first, end in stretches.passes()]
            for chosen in product(*choices):
                chunks, lane, key = [], 0, []
                for count, preset in [pair for cuts in chosen for pair in cuts]:
                    chunks.append((count, preset, stretches.least_filters(lane, count, preset)))
                    key.append((-count, preset))
                    lane += count
                colours = None if palette is None else palette.entries
                yield place, at, key, Plan(colours, word=word, spares=spares, chunks=chunks)


def cheapest_by_hand(picture, orders=("none", "value", "first", "often"), words=("",), spares=0, careful=False):
    """Return the first of the plans with the shortest files."""
    plans = [(len(write_file(picture, plan)), place, at, key, plan)
             for place, at, key, plan in plans_by_hand(picture, orders, words, spares, careful)]
    least = min(row[:4] for row in plans)
    return [row[4] for row in plans if row[:4] == least][0]
