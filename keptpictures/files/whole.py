"""Whole files: byte texts that are read at once."""

from keptpictures.chunks.pieces import pieces
from keptpictures.errors import BadFile
from keptpictures.files.reader import Reader
from keptpictures.files.writer import write_file


def read_file(data):
    """Return the picture of the file."""
    reader = reader_of(data)
    return reader.picture()


def read_plan(data):
    """Return the plan of the file."""
    reader = reader_of(data)
    return reader.plan()


def tidy(data):
    """Return the file with the same picture and plan and with the least tokens."""
    reader = reader_of(data)
    return write_file(reader.picture(), reader.plan())


def first_wrong(data):
    """Return the place at which the byte text stops being a file, or None."""
    try:
        reader_of(data)
    except BadFile as wrong:
        return wrong.at
    return None


def reader_of(data):
    """Return the reader that has taken the file."""
    reader = Reader()
    reader.feed(*data)
    if not reader.done:
        raise BadFile(len(data), reader.whole_chunks)
    return reader


def chunks_of(data):
    """Yield the kind and the content of each chunk of the file."""
    for start, end in pieces(data):
        yield (data[start] - 128, data[start + 1:end - 3])
