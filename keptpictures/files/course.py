"""Courses: what the chunks at the front of a file tell, and which chunk follows them."""

from keptpictures.chunks.sums import KINDS, closing
from keptpictures.files.bodies import spare_rows
from keptpictures.files.colours import PaletteForm
from keptpictures.files.contents import DataForm, spare_content
from keptpictures.files.forms import Form
from keptpictures.files.head import HeadForm
from keptpictures.files.layout import Layout
from keptpictures.filters.lanes import fill_track
from keptpictures.filters.prediction import near_cells
from keptpictures.sheets.sheet import Sheet


class FixedForm(Form):
    """A content that leaves no choice, number by number."""

    def __init__(self, content):
        super().__init__()
        self._whole = content

    def choices(self):
        """Return the only number that can come next."""
        place = len(self._front)
        return list(self._whole[place:place + 1])


class ChunkForm:
    """One chunk of a file, byte by byte."""

    def __init__(self, word, form):
        """Begin before the mark of a chunk with this word for its kind and this form of its content."""
        self.word = word
        self.form = form
        self._kind = KINDS.index(word)
        self._marked = False
        self._content = []
        self._closing = None

    def take(self, byte):
        """Take the byte, or return False if no chunk goes on with it."""
        if self._marked and self._closing is None:
            if not self.form.take(byte):
                return False
            self._content.append(byte)
        elif byte != self.least():
            return False
        elif self._marked:
            self._closing = self._closing[1:]
        self._marked = True
        if self._closing is None and self.form.is_whole():
            self._closing = closing(self._kind, self._content)
        return True

    def least(self):
        """Return the least byte with which the chunk, which is not whole, goes on."""
        if not self._marked:
            return 128 + self._kind
        if self._closing is None:
            return self.form.least()
        return self._closing[0]

    def is_whole(self):
        """Tell whether all closing bytes are taken."""
        return self._closing == ()


class Course:
    """What the whole chunks at the front of a file tell."""

    def __init__(self):
        self.head = None
        self.palette = None
        self.lanes = 0
        self.passes = 0
        self.planned = []
        self._layout = None
        self._grids = []
        # What is still to come: the word of a kind, and with it the end of the lanes for "data", the pass for "spare".
        self._steps = [("head", 0)]

    def following(self):
        """Return the chunk that comes next, before its mark, or None behind the last one."""
        if not self._steps:
            return None
        word, number = self._steps[0]
        if word == "head":
            return ChunkForm(word, HeadForm())
        if word == "palette":
            return ChunkForm(word, PaletteForm(self.head))
        if word == "data":
            return ChunkForm(word, DataForm(self._layout, self.lanes))
        if word == "spare":
            rows = spare_rows(self.body(), self.head.word, number, self.head.spares)
            return ChunkForm(word, FixedForm(spare_content(self._layout, number, rows)))
        return ChunkForm(word, FixedForm(()))

    def note(self, chunk):
        """Note what the chunk, which is whole, tells."""
        word, number = self._steps[0]
        if word == "head":
            self._begin(chunk.form.told())
        elif word == "palette":
            self.palette = chunk.form.told()
        elif word == "data":
            self._receive(chunk.form.told())
        if word != "data" or self.lanes == number:
            self._steps = self._steps[1:]

    def body(self):
        """Return the sheets, with zeros in the cells whose lanes are not received."""
        return [Sheet(modulus, rows) for modulus, rows in zip(self.head.moduli, self._grids)]

    def _begin(self, head):
        """Make ready for the chunks behind the head."""
        self.head = head
        self._layout = Layout(head)
        self._grids = [[[0] * head.width for _ in range(head.height)] for _ in head.moduli]
        if head.colours > 0:
            self._steps.append(("palette", 0))
        for number in self._layout.passes_with_tracks():
            _, end = self._layout.bounds[number]
            self._steps.append(("data", end))
            if head.spares > 0:
                self._steps.append(("spare", number))
        self._steps.append(("end", 0))

    def _receive(self, told):
        """Write the lanes of a data chunk into the sheets."""
        first, code, filters, rows = told
        for lane, (number, row) in enumerate(zip(filters, rows), start=first):
            track = self._layout.track_of(lane)
            sheet = self._layout.sheet_of(lane)
            near = near_cells(number, self.head.word, track[0])
            fill_track(self._grids[sheet], track, near, row, self.head.moduli[sheet])
        self.planned.append((len(filters), code, filters))
        self.lanes += len(filters)
        self.passes = len([end for _, end in self._layout.bounds if end <= self.lanes])
