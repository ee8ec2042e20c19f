"""What several tests need."""

import random

from keptpictures.pictures.picture import Picture
from keptpictures.sheets.sheet import Sheet

HUGE = 10 ** 60 - 1  # the greatest number of 60 digits


def chances(seed):
    """Return a row of chances that is the same in every run."""
    return random.Random(seed)


def some_rows(chance, modulus, width, height):
    return [[chance.randrange(modulus) for _ in range(width)] for _ in range(height)]


def some_sheet(chance, modulus, width, height):
    return Sheet(modulus, some_rows(chance, modulus, width, height))


def some_colour(chance, depths):
    return tuple(chance.randrange(2 ** depth) for depth in depths)


def some_picture(chance, width, height, depths, mask=False):
    rows = [[some_colour(chance, depths) for _ in range(width)] for _ in range(height)]
    return Picture.of(depths, rows, mask)


def all_pictures(width, height, depths):
    """Return all pictures of a shape, without a mask."""
    colours = [()]
    for depth in depths:
        colours = [colour + (sample,) for colour in colours for sample in range(2 ** depth)]
    grids = [()]
    for _ in range(width * height):
        grids = [grid + (colour,) for grid in grids for colour in colours]
    return [Picture.of(depths, [grid[y * width:(y + 1) * width] for y in range(height)]) for grid in grids]


def numbered(width, height, depths=(11,)):
    """Return a picture whose first plane numbers the cells in row order."""
    rest = (0,) * (len(depths) - 1)
    rows = [[(y * width + x,) + rest for x in range(width)] for y in range(height)]
    return Picture.of(depths, rows)


def are_plain_integers(value):
    """Tell whether nested tuples and lists hold integers alone, and no truth values."""
    if isinstance(value, (tuple, list)):
        return all(are_plain_integers(item) for item in value)
    return type(value) is int
