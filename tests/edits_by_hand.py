"""Edits, done cell by cell on a dict, to compare the program with."""

from keptpictures.pictures.picture import Picture
from tests.helpers import some_colour


def by_hand(picture, edits):
    """Return the picture after the edits, all of which fit."""
    cells = {(x, y): picture[x, y] for x in range(picture.width) for y in range(picture.height)}
    for word, *rest in edits:
        right = max(x for x, _ in cells)
        low = max(y for _, y in cells)
        if word == "paint":
            x0, y0, width, height, colour = rest
            cells |= {(x0 + i, y0 + j): colour for i in range(width) for j in range(height)}
        elif word == "shift":
            plane, amount = rest
            size = 2 ** picture.depths[plane]
            for at, colour in cells.items():
                samples = list(colour)
                samples[plane] = (samples[plane] + amount) % size
                cells[at] = tuple(samples)
        elif word == "mirror":
            cells = {(right - x, y): colour for (x, y), colour in cells.items()}
        elif word == "flip":
            cells = {(x, low - y): colour for (x, y), colour in cells.items()}
        elif word == "turn":
            cells = {(y, x): colour for (x, y), colour in cells.items()}
        else:
            x0, y0, width, height = rest
            cells = {(i, j): cells[x0 + i, y0 + j] for i in range(width) for j in range(height)}
    width, height = (1 + max(place) for place in zip(*cells))
    rows = [[cells[x, y] for x in range(width)] for y in range(height)]
    return Picture.of(picture.depths, rows, picture.mask)


def some_rectangle(chance, width, height):
    x, y = chance.randrange(width), chance.randrange(height)
    return x, y, chance.randint(1, width - x), chance.randint(1, height - y)


def some_edits(chance, shape, many, words=("paint", "shift", "mirror", "flip", "turn", "cut")):
    """Return edits that fit one after the other."""
    width, height, depths = shape
    edits = []
    for _ in range(many):
        word = chance.choice(words)
        if word == "paint":
            edits.append((word, *some_rectangle(chance, width, height), some_colour(chance, depths)))
        elif word == "shift":
            edits.append((word, chance.randrange(len(depths)), chance.randint(-65535, 65535)))
        elif word == "cut":
            edits.append((word, *some_rectangle(chance, width, height)))
            width, height = edits[-1][3:]
        else:
            edits.append((word,))
            if word == "turn":
                width, height = height, width
    return edits
