"""Mending: pieces in which one byte was replaced."""

from keptpictures.chunks.pieces import is_sound
from keptpictures.chunks.sums import closing, double


def mended(piece):
    """Return the sound piece that differs in no byte or in one, or None."""
    for place, byte in suspects(piece):
        candidate = piece[:place] + (byte,) + piece[place + 1:]
        if is_sound(candidate):
            return candidate
    return None


def suspects(piece):
    """Return the pairs (place, byte) of all replacements of one byte that can make the piece sound."""
    front = len(piece) - 3
    right = closing(piece[0] - 128, piece[1:front])
    found = [(front + place, byte) for place, byte in enumerate(right)]
    # A byte in front that is wrong by some bits changes the sum by these bits, and the turn by their double,
    # taken as often as bytes follow up to the length. So sum and turn together tell the place.
    change = piece[-2] ^ right[1]
    turned = change
    for place in reversed(range(front)):
        turned = double(turned)
        if turned == piece[-1] ^ right[2]:
            found.append((place, piece[place] ^ change))
    return found
