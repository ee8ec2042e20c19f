"""Views: what a sheet looks like before all of its passes are there."""

from keptpictures.passes.tracks import grid_steps
from keptpictures.sheets.sheet import Sheet


def coarse_view(sheet, word, passes):
    """Return the sheet that shows, at each cell, the nearest sample to the upper left after so many passes."""
    across, down = grid_steps(word, passes - 1)
    rows = [coarse_row(sheet.rows[y - y % down], across) for y in range(sheet.height)]
    return Sheet(sheet.modulus, rows)


def coarse_row(row, across):
    """Return the row in which each sample that stands at a multiple of the step fills the places up to the next."""
    return [row[x - x % across] for x in range(len(row))]
