"""Sheets: grids of samples, computed with modulo a number."""

from keptpictures.errors import Unlike
from keptpictures.sheets.cells import require_cell


class Sheet:
    """A grid of samples from 0 to modulus - 1, which never changes."""

    def __init__(self, modulus, rows):
        self.modulus = modulus
        self.rows = tuple([tuple(row) for row in rows])
        self.width = len(self.rows[0]) if self.rows else 0
        self.height = len(self.rows)

    def __eq__(self, other):
        return isinstance(other, Sheet) and self.modulus == other.modulus and self.rows == other.rows

    def __iter__(self):
        return iter(self.rows)

    def __getitem__(self, at):
        x, y = at
        require_cell(x, y, self.width, self.height)
        return self.rows[y][x]

    def __add__(self, other):
        require_alike(self, other)
        rows = [[a + b for a, b in zip(row, added)] for row, added in zip(self.rows, other.rows)]
        return reduced(self.modulus, rows)

    def __sub__(self, other):
        return self + -other

    def __neg__(self):
        return self * -1

    def __mul__(self, other):
        return reduced(self.modulus, [[sample * other for sample in row] for row in self.rows])

    def __rmul__(self, other):
        return self * other

    def changed(self, x, y, sample):
        """Return the sheet that has this sample at the cell (x, y)."""
        require_cell(x, y, self.width, self.height)
        rows = [list(row) for row in self.rows]
        rows[y][x] = sample
        return Sheet(self.modulus, rows)

    @staticmethod
    def even(modulus, width, height, sample=0):
        """Return the sheet of this size that has one sample everywhere."""
        return Sheet(modulus, [[sample] * width] * height)


def require_alike(one, other):
    """Raise Unlike unless two sheets have the same modulus, width and height."""
    if one.modulus != other.modulus or one.width != other.width or one.height != other.height:
        raise Unlike()


def reduced(modulus, rows):
    """Return the sheet of these numbers, each taken modulo the modulus."""
    return Sheet(modulus, [[number % modulus for number in row] for row in rows])
