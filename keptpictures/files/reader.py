"""Readers: files, read byte by byte."""

from keptpictures.errors import BadFile, NotWhole
from keptpictures.files.bodies import picture_of_body
from keptpictures.files.course import Course
from keptpictures.files.plan import Plan
from keptpictures.passes.views import coarse_view


class Reader:
    """Takes the bytes of one file, and tells what they say of its picture so far."""

    def __init__(self):
        self._course = Course()
        self._chunk = self._course.following()
        self._taken = 0
        self._chunks = 0

    @property
    def taken(self):
        """Return how many bytes are taken."""
        return self._taken

    @property
    def whole_chunks(self):
        """Return how many chunks are whole."""
        return self._chunks

    @property
    def received_lanes(self):
        """Return how many lanes the whole data chunks hold."""
        return self._course.lanes

    @property
    def received_passes(self):
        """Return how many passes at the front have no lane that is missing."""
        return self._course.passes

    @property
    def done(self):
        """Tell whether a whole file is taken."""
        return self._chunk is None

    def feed(self, *data):
        """Take the bytes."""
        for byte in data:
            if self._chunk is None or not self._chunk.take(byte):
                raise BadFile(self._taken, self._chunks)
            self._taken += 1
            if self._chunk.is_whole():
                self._course.note(self._chunk)
                self._chunks += 1
                self._chunk = self._course.following()

    def least(self):
        """Return the least byte with which a file, of which some is missing, goes on."""
        return self._chunk.least()

    def coarse(self):
        """Return the picture as the received passes show it."""
        if self._course.passes == 0:
            raise NotWhole()
        head = self._course.head
        views = [coarse_view(sheet, head.word, self._course.passes) for sheet in self._course.body()]
        return picture_of_body(views, self._course.palette, head.mask)

    def picture(self):
        """Return the picture of the whole file."""
        self._require_whole()
        return picture_of_body(self._course.body(), self._course.palette, self._course.head.mask)

    def plan(self):
        """Return the plan of the whole file."""
        self._require_whole()
        head = self._course.head
        colours = None if self._course.palette is None else self._course.palette.entries
        return Plan(colours, word=head.word, spares=head.spares, chunks=self._course.planned)

    def _require_whole(self):
        """Refuse what only a whole file tells."""
        if self._chunk is not None:
            raise NotWhole()
