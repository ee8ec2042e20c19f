"""Sums: the bytes that close a chunk."""

KINDS = ("head", "palette", "data", "spare", "end")


def double(number):
    """Return the double of a number below 128, which is below 128 again."""
    if 2 * number < 128:
        return 2 * number
    return (2 * number - 128) ^ 3


def closing(kind, content):
    """Return the length, the sum and the turn of a chunk."""
    length = len(content) % 128
    total = 0
    turn = 0
    for number in (kind, *content, length):
        total = total ^ number
        turn = double(turn) ^ number
    return (length, total, turn)


def write_chunk(kind, content):
    """Return the bytes of the chunk."""
    ending = closing(kind, content)
    return (128 + kind, *content, *ending)
