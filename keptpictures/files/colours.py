"""Colours: the content of a palette chunk."""

from keptpictures.codes.bits import bits_of
from keptpictures.codes.packing import pack
from keptpictures.files.forms import Form
from keptpictures.files.packed import Packed
from keptpictures.palettes.palette import Palette


class ColourBits:
    """The bits of so many different colours."""

    def __init__(self, many, places):
        self.words = []
        self._many = many
        self._places = places
        self._part = ""

    def is_done(self):
        """Tell whether all colours are whole."""
        return len(self.words) == self._many

    def take(self, bit):
        """Take the bit, or return False if only colours go on with it that are there already."""
        part = self._part + bit
        there = [word for word in self.words if word.startswith(part)]
        if len(there) == 1 << (self._places - len(part)):
            return False
        if len(part) == self._places:
            self.words.append(part)
            part = ""
        self._part = part
        return True

    def copied(self):
        """Return a source that has taken the same bits and goes on by itself."""
        other = ColourBits(self._many, self._places)
        other.words = list(self.words)
        other._part = self._part
        return other


class PaletteForm(Form):
    """The content of the palette chunk for a head, number by number."""

    def __init__(self, head):
        super().__init__()
        self._depths = head.depths
        self._packed = Packed(ColourBits(head.colours, sum(head.depths)))

    def told(self):
        """Return the palette that has the content, which is whole."""
        colours = [colour_of_bits(word, self._depths) for word in self._packed.source.words]
        return Palette(colours, self._depths)


def colour_of_bits(bits, depths):
    """Return the colour whose samples have these bits."""
    samples = []
    start = 0
    for depth in depths:
        samples.append(int(bits[start:start + depth], 2))
        start += depth
    return tuple(samples)


def colour_bits(colour, depths):
    """Return the bits of the samples of a colour."""
    return "".join([bits_of(sample, depth) for sample, depth in zip(colour, depths)])


def palette_content(palette):
    """Return the content of the palette chunk."""
    return pack("".join([colour_bits(colour, palette.depths) for colour in palette.entries]))


def least_palette(head):
    """Return the palette of the least colours, as many as the head says."""
    places = sum(head.depths)
    colours = [colour_of_bits(bits_of(number, places), head.depths) for number in range(head.colours)]
    return Palette(colours, head.depths)
