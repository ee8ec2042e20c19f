"""Orders: how the colours of a picture are listed, numbered and renamed."""

from keptpictures.errors import TooMany
from keptpictures.palettes.palette import Palette


def palette_of(picture, order="value"):
    """Return the palette of the picture's colours in the order."""
    counts = colour_counts(picture)
    if len(counts) > Palette.LIMIT:
        raise TooMany(len(counts))
    return Palette(ordered_colours(counts, order), picture.depths)


def colour_counts(picture):
    """Return how many cells each colour has, with the colours as they occur first."""
    counts = {}
    for row in picture.rows:
        for colour in row:
            counts[colour] = counts.get(colour, 0) + 1
    return counts


def ordered_colours(counts, order):
    """Return the list of the counted colours in the order."""
    if order == "value":
        return sorted(counts)
    if order == "often":
        ranked = sorted([(-count, colour) for colour, count in counts.items()])
        return [colour for _, colour in ranked]
    return list(counts)


def drawing(picture):
    """Return, for each cell, how many colours occur before the cell's own one first does."""
    numbers = {colour: number for number, colour in enumerate(colour_counts(picture))}
    return tuple([tuple([numbers[colour] for colour in row]) for row in picture.rows])


def renaming(one, other):
    """Return the pairs of colours that rename one picture to the other one, or None."""
    if drawing(one) != drawing(other):
        return None
    pairs = {}
    for row, others in zip(one.rows, other.rows):
        for colour, its in zip(row, others):
            pairs[colour] = its
    return sorted(pairs.items())
