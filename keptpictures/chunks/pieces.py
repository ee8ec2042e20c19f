"""Pieces: what a byte text has from one mark to the next."""

from keptpictures.chunks.sums import KINDS, closing


def pieces(data):
    """Return the pairs (start, end) of the pieces."""
    starts = [place for place, byte in enumerate(data) if byte >= 128]
    return list(zip(starts, starts[1:] + [len(data)]))


def is_sound(piece):
    """Tell whether the bytes are the written form of a chunk."""
    if len(piece) < 4 or not 128 <= piece[0] < 128 + len(KINDS):
        return False
    if not all([byte < 128 for byte in piece[1:]]):
        return False
    return piece[-3:] == closing(piece[0] - 128, piece[1:-3])
