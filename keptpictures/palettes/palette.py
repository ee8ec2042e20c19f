"""Palettes: rows of different colours."""

from keptpictures.errors import BadPalette, NoColour, NoEntry, TooMany, Unlike
from keptpictures.pictures.colours import colour_fits, shifted_colour
from keptpictures.pictures.picture import picture_of_rows
from keptpictures.sheets.sheet import Sheet


class Palette:
    """A row of 1 to 64 different colours that fit the depths, which never changes."""

    LIMIT = 64

    def __init__(self, colours, depths):
        wrong = first_wrong_colour(colours, depths)
        if wrong is not None:
            raise BadPalette(wrong)
        self.entries = tuple(colours)
        self.depths = tuple(depths)
        self._places = {colour: place for place, colour in enumerate(self.entries)}

    def __eq__(self, other):
        return isinstance(other, Palette) and self.depths == other.depths and self.entries == other.entries

    def __len__(self):
        return len(self.entries)

    def __iter__(self):
        return iter(self.entries)

    def __contains__(self, x):
        return x in self._places

    def __getitem__(self, at):
        if not 0 <= at < len(self.entries):
            raise NoEntry(at)
        return self.entries[at]

    def index(self, colour):
        """Return the number of the entry that equals the colour."""
        if colour not in self._places:
            raise NoColour(colour)
        return self._places[colour]

    def indexed(self, picture):
        """Return the index sheet of the picture."""
        if picture.depths != self.depths:
            raise Unlike()
        rows = [[self.index(colour) for colour in row] for row in picture.rows]
        return Sheet(len(self.entries), rows)

    def painted(self, sheet, mask=False):
        """Return the picture that has, at each cell, the entry whose number the sheet has there."""
        if sheet.modulus != len(self.entries):
            raise Unlike()
        rows = [[self.entries[number] for number in row] for row in sheet.rows]
        return picture_of_rows(self.depths, rows, mask)

    def merged(self, other):
        """Return the palette with the entries of this one, then those that only the other one has."""
        if self.depths != other.depths:
            raise Unlike()
        added = [colour for colour in other.entries if colour not in self._places]
        number = len(self.entries) + len(added)
        if number > Palette.LIMIT:
            raise TooMany(number)
        return Palette(self.entries + tuple(added), self.depths)

    def shifted(self, plane, amount):
        """Return the palette with the amount added to the samples of one plane."""
        shifts = [0] * len(self.depths)
        shifts[plane] = amount
        return Palette([shifted_colour(colour, shifts, self.depths) for colour in self.entries], self.depths)


def first_wrong_colour(colours, depths):
    """Return the place at which colours stop being a palette, or None."""
    if not colours:
        return 0
    seen = {}
    for place, colour in enumerate(colours):
        if place == Palette.LIMIT or colour in seen or not colour_fits(colour, depths):
            return place
        seen[colour] = True
    return None


def shifted_palette(palette, shifts):
    """Return the palette shifted plane by plane."""
    shifted = palette
    for plane, shift in enumerate(shifts):
        shifted = shifted.shifted(plane, shift)
    return shifted
