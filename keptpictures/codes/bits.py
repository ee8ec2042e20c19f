"""Bits: numbers as strings of zeros and ones."""


def bits_of(number, places):
    """Return the binary digits of the number in so many places."""
    if places == 0:
        return ""
    digits = f"{number:b}"
    return digits.zfill(places)
