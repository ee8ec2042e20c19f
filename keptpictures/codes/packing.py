"""Packing: seven bits in one number."""

from keptpictures.codes.bits import bits_of

PLACES = 7


def pack(bits):
    """Return the numbers that hold the bits, with zeros added behind them."""
    whole = bits + "0" * (-len(bits) % PLACES)
    return tuple([int(whole[place:place + PLACES], 2) for place in range(0, len(whole), PLACES)])


def unpack(content):
    """Return the bits that the numbers hold."""
    return "".join([bits_of(number, PLACES) for number in content])


def packed_length(many):
    """Return into how many numbers so many bits are packed."""
    return (many + PLACES - 1) // PLACES
