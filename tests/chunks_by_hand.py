"""Chunks, worked out bit by bit and by trying everything, to compare the program with."""


def double_by_hand(number):
    """Return the double: the bits move up, and the bit that falls out comes in again at the two lowest places."""
    bits = [number >> place & 1 for place in range(7)]
    moved = [bits[6]] + bits[:6]
    moved[1] ^= bits[6]
    return sum(bit << place for place, bit in enumerate(moved))


DOUBLES = [double_by_hand(number) for number in range(128)]


def closing_by_hand(kind, content):
    """Return the closing bytes, with the turn as the sum of what becomes of each number of the row."""
    row = [kind] + list(content) + [len(content) % 128]
    total = turn = 0
    for place, number in enumerate(row):
        total ^= number
        for _ in range(len(row) - 1 - place):
            number = DOUBLES[number]
        turn ^= number
    return len(content) % 128, total, turn


def chunk_by_hand(kind, content):
    return (128 + kind,) + tuple(content) + closing_by_hand(kind, content)


def is_chunk(piece):
    """Tell whether a piece is the written form of a chunk."""
    return len(piece) >= 4 and 128 <= piece[0] <= 132 and piece == chunk_by_hand(piece[0] - 128, piece[1:-3])


def replacements(piece):
    """Return all pieces that differ from this one in exactly one byte, and are pieces still."""
    found = []
    for place, old in enumerate(piece):
        for byte in range(128, 256) if place == 0 else range(128):
            if byte != old:
                found.append(piece[:place] + (byte,) + piece[place + 1:])
    return found


def mended_by_hand(piece):
    """Return the only sound piece that differs in at most one byte, or None."""
    if is_chunk(piece):
        return piece
    sound = [other for other in replacements(piece) if is_chunk(other)]
    assert len(sound) <= 1
    return sound[0] if sound else None
