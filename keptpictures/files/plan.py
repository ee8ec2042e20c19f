"""Plans: in which way a picture is written."""

from keptpictures.passes.tracks import pass_bounds


class Plan:
    """The choices that a file leaves open for a picture, which never change."""

    def __init__(self, palette=None, *, word="", spares=0, chunks=()):
        self.palette = None if palette is None else tuple(palette)
        self.word = word
        self.spares = spares
        self.chunks = tuple([kept_chunk(chunk) for chunk in chunks])

    def __eq__(self, other):
        return (isinstance(other, Plan)
                and self.palette == other.palette and self.word == other.word
                and self.spares == other.spares and self.chunks == other.chunks)


def kept_chunk(chunk):
    """Return the same (count, code, filters) without any list, so that no one can change the plan."""
    count, code, filters = chunk
    if isinstance(code, tuple):
        rungs, repeat = code
        code = (tuple(rungs), repeat)
    return (count, code, tuple(filters))


def even_plan(picture, *, palette=None, word="", spares=0, code=0, kind=0, most=100):
    """Return the plan that gives all lanes the same code and filter, in chunks as even as can be."""
    sheets = len(picture.planes) if palette is None else 1
    chunks = []
    for first, end in pass_bounds(picture.width, picture.height, word, sheets):
        for lane in range(first, end, most):
            count = min(most, end - lane)
            chunks.append((count, code, (kind,) * count))
    return Plan(palette, word=word, spares=spares, chunks=chunks)
