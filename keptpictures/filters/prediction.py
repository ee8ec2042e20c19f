"""Predictions: what the samples that are sent earlier let one expect."""

from keptpictures.passes.tracks import grid_steps, letter_of, pass_of
from keptpictures.sheets.cells import require_cell

FILTERS = ("none", "left", "up", "corner", "plane", "ahead", "slope", "fall")

NEAR = {
    "none": (),
    "left": ((-1, 0, 1),),
    "up": ((0, -1, 1),),
    "corner": ((-1, -1, 1),),
    "plane": ((-1, -1, -1), (0, -1, 1), (-1, 0, 1)),
    "slope": ((-2, 0, -1), (-1, 0, 2)),
    "fall": ((0, -2, -1), (0, -1, 2)),
}

# The filter "ahead" looks at a cell of an earlier pass; which one it is depends on the letter of the pass.
AHEAD = {"": (), "a": ((1, 0, 1),), "d": ((0, 1, 1),)}


def neighbours(number, letter):
    """Return the triples (dx, dy, weight) of a filter, with dx and dy counted in steps of the grid."""
    name = FILTERS[number]
    if name == "ahead":
        return AHEAD[letter]
    return NEAR[name]


def near_cells(number, word, own):
    """Return the triples of a filter in the pass number `own`, with dx and dy counted in cells."""
    across, down = grid_steps(word, own)
    triples = neighbours(number, letter_of(word, own))
    return [(dx * across, dy * down, weight) for dx, dy, weight in triples]


def weighted_sum(rows, x, y, near):
    """Return the weighted sum of those samples near the cell (x, y) that lie inside."""
    total = 0
    for dx, dy, weight in near:
        if 0 <= x + dx < len(rows[0]) and 0 <= y + dy < len(rows):
            total += weight * rows[y + dy][x + dx]
    return total


def predicted(sheet, x, y, number, word):
    """Return the prediction of the filter for the cell (x, y)."""
    require_cell(x, y, sheet.width, sheet.height)
    near = near_cells(number, word, pass_of(x, y, word))
    return weighted_sum(sheet.rows, x, y, near) % sheet.modulus
