"""Cells: the places of a grid."""

from keptpictures.errors import NoCell


def require_cell(x, y, width, height):
    """Raise NoCell unless a grid of this size has the cell (x, y)."""
    if not (0 <= x < width and 0 <= y < height):
        raise NoCell(x, y)
