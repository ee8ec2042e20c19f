"""Contents: what data chunks and spare chunks hold."""

from keptpictures.codes.bits import bits_of
from keptpictures.codes.packing import pack
from keptpictures.codes.table import Table, width_of
from keptpictures.codes.tokens import least_tokens, write_tokens
from keptpictures.errors import BadContent
from keptpictures.files.coding import code_choices, code_numbers, code_of, code_tables
from keptpictures.files.forms import Form, take_content
from keptpictures.files.layout import Layout
from keptpictures.files.packed import Packed, RowBits
from keptpictures.filters.lanes import lane_numbers

FILTER_PLACES = 3
MOST_LANES = 100


class DataForm(Form):
    """The content of a data chunk, number by number."""

    def __init__(self, layout, lane=None):
        """Begin with any first lane, or with the given one alone."""
        super().__init__()
        self._layout = layout
        self._lane = lane

    def choices(self):
        """Return the numbers that can come next."""
        place = len(self._front)
        if place < 2:
            return self._lane_choices()
        if place == 2:
            first = self._first()
            return list(range(1, min(MOST_LANES, self._layout.pass_end(first) - first) + 1))
        return code_choices(self._front[3:], self._layout.greatest)

    def packed_part(self):
        """Return what takes the filters and the coded lanes."""
        tables = code_tables(code_of(self._front[3:]), self._layout.moduli)
        fields = []
        first = self._first()
        for lane in range(first, first + self._front[2]):
            sheet = self._layout.sheet_of(lane)
            count = self._layout.track_of(lane)[4]
            fields.append((1, 1 << FILTER_PLACES, flat_table(FILTER_PLACES)))
            fields.append((count, self._layout.moduli[sheet], tables[sheet]))
        return Packed(RowBits(fields))

    def told(self):
        """Return (first, code, filters, rows) of the content, which is whole."""
        rows = self._packed.source.rows
        filters = tuple([row[0] for row in rows[::2]])
        return (self._first(), code_of(self._front[3:]), filters, tuple(rows[1::2]))

    def _first(self):
        """Return the number of the first lane."""
        return 128 * self._front[0] + self._front[1]

    def _lane_choices(self):
        """Return what can come next of the two numbers of the first lane."""
        place = len(self._front)
        if self._lane is not None:
            return [self._lane % 128 if place == 1 else self._lane // 128]
        if place == 1:
            return list(range(min(128, self._layout.many - 128 * self._front[0])))
        return list(range((self._layout.many - 1) // 128 + 1))


class SpareForm(Form):
    """The content of a spare chunk, number by number."""

    def __init__(self, layout):
        super().__init__()
        self._layout = layout

    def choices(self):
        """Return the numbers that can come next."""
        return [] if self._front else self._layout.passes_with_tracks()

    def packed_part(self):
        """Return what takes the spares."""
        fields = self._layout.spare_fields(self._front[0])
        return Packed(RowBits([(count, modulus, flat_table(width_of(modulus))) for count, modulus in fields]))

    def told(self):
        """Return (pass, rows) of the content, which is whole."""
        return (self._front[0], tuple(self._packed.source.rows))


def flat_table(places):
    """Return the table in which each number has its bits in so many places."""
    return Table([(0, places)])


def read_data(head, content):
    """Return (first, code, filters, rows) of the content of a data chunk."""
    form = DataForm(Layout(head))
    take_content(form, content)
    return form.told()


def read_spare(head, content):
    """Return (pass, rows) of the content of a spare chunk."""
    if head.spares == 0:
        raise BadContent(0)
    form = SpareForm(Layout(head))
    take_content(form, content)
    return form.told()


def data_content(layout, body, first, code, filters):
    """Return the content of the data chunk with these lanes of the body, with the least tokens."""
    tables = code_tables(code, layout.moduli)
    bits = []
    for lane, number in enumerate(filters, start=first):
        sheet = layout.sheet_of(lane)
        numbers = lane_numbers(body[sheet], layout.track_of(lane), number, layout.head.word)
        bits.append(bits_of(number, FILTER_PLACES))
        bits.append(write_tokens(least_tokens(numbers, tables[sheet]), tables[sheet]))
    front = [first // 128, first % 128, len(filters)] + code_numbers(code)
    return tuple(front) + pack("".join(bits))


def spare_content(layout, number, rows):
    """Return the content of the spare chunk of the pass with these rows of spares."""
    bits = []
    for row, (_, modulus) in zip(rows, layout.spare_fields(number)):
        places = width_of(modulus)
        bits.extend([bits_of(spare, places) for spare in row])
    return (number,) + pack("".join(bits))
