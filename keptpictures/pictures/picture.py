"""Pictures: grids of colours, made of one to four planes."""

from keptpictures.errors import BadPicture, Unlike
from keptpictures.pictures.colours import colour_fits
from keptpictures.sheets.cells import require_cell
from keptpictures.sheets.sheet import Sheet


class Picture:
    """A grid of colours, perhaps with a mask, which never changes."""

    def __init__(self, planes, mask=False):
        if not can_be_planes(planes, mask):
            raise BadPicture()
        self.planes = tuple(planes)
        self.mask = mask
        self.width = self.planes[0].width
        self.height = self.planes[0].height
        self.depths = tuple([depth_of(plane.modulus) for plane in self.planes])
        self.rows = colour_rows(self.planes)

    def __eq__(self, other):
        return isinstance(other, Picture) and self.planes == other.planes and self.mask == other.mask

    def __iter__(self):
        return iter(self.rows)

    def __getitem__(self, at):
        x, y = at
        require_cell(x, y, self.width, self.height)
        return self.rows[y][x]

    def __or__(self, other):
        if not (self.mask and other.mask and shape_of(self) == shape_of(other)):
            raise Unlike()
        rows = [seen_row(row, below) for row, below in zip(self.rows, other.rows)]
        return picture_of_rows(self.depths, rows, True)

    def is_clear(self, x, y):
        """Tell whether the picture has a mask that leaves the cell (x, y) out."""
        require_cell(x, y, self.width, self.height)
        return self.mask and self.rows[y][x][-1] == 0

    def colour_list(self):
        """Return the different colours, ascending."""
        return sorted({colour for row in self.rows for colour in row})

    @staticmethod
    def of(depths, rows, mask=False):
        """Return the picture that has these rows of colours."""
        if not can_be_rows(rows, depths):
            raise BadPicture()
        return picture_of_rows(depths, rows, mask)


def can_be_planes(planes, mask):
    """Tell whether sheets can be the planes of a picture with or without a mask."""
    if not 1 <= len(planes) <= 4:
        return False
    first = planes[0]
    for plane in planes:
        if plane.width != first.width or plane.height != first.height:
            return False
        if not has_depth(plane.modulus):
            return False
    return not mask or (len(planes) >= 2 and planes[-1].modulus == 2)


def can_be_rows(rows, depths):
    """Tell whether rows of colours form a grid of at most 40 by 40 that fits the depths."""
    if not 1 <= len(rows) <= 40 or not 1 <= len(rows[0]) <= 40:
        return False
    for row in rows:
        if len(row) != len(rows[0]) or not all([colour_fits(colour, depths) for colour in row]):
            return False
    return True


def has_depth(modulus):
    """Tell whether a modulus is 2 ** depth for a depth from 1 to 16."""
    return 2 <= modulus <= 65536 and modulus & (modulus - 1) == 0


def depth_of(modulus):
    """Return the depth of which a modulus is the power of two."""
    return modulus.bit_length() - 1


def colour_rows(planes):
    """Return the rows of colours of the planes."""
    rows = []
    for y in range(planes[0].height):
        layers = [plane.rows[y] for plane in planes]
        rows.append(tuple(zip(*layers)))
    return tuple(rows)


def seen_row(top, bottom):
    """Return the row that is seen where the clear cells of one row show another one."""
    return [low if high[-1] == 0 else high for high, low in zip(top, bottom)]


def picture_of_rows(depths, rows, mask):
    """Return the picture of rows of colours that fit the depths."""
    planes = []
    for place, depth in enumerate(depths):
        samples = [[colour[place] for colour in row] for row in rows]
        planes.append(Sheet(1 << depth, samples))
    return Picture(planes, mask)


def shape_of(picture):
    """Return the width, the height and the depths of a picture."""
    return (picture.width, picture.height, picture.depths)
