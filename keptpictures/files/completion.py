"""Completion: the least file that begins with given bytes."""

from keptpictures.files.reader import Reader


def completion(data):
    """Return the least file that begins with the byte text."""
    reader = Reader()
    reader.feed(*data)
    added = []
    while not reader.done:
        byte = reader.least()
        reader.feed(byte)
        added.append(byte)
    return (*data, *added)
