"""Frames: how many bytes a file has apart from its data chunks."""

from keptpictures.codes.packing import packed_length
from keptpictures.codes.table import width_of
from keptpictures.errors import TooMany
from keptpictures.files.layout import Layout
from keptpictures.files.plan import Plan
from keptpictures.files.writer import planned_head
from keptpictures.palettes.orders import palette_of

# The mark and the closing bytes of a chunk.
BARE = 4


def form_palettes(picture, orders):
    """Return the palettes of the picture in the orders, with None for "none", and without those that there are not."""
    palettes = []
    for order in orders:
        try:
            palettes.append(None if order == "none" else palette_of(picture, order))
        except TooMany:
            pass
    return palettes


def form_layout(picture, palette, word, spares):
    """Return the layout of the files of a picture with the palette, or with none."""
    colours = None if palette is None else palette.entries
    return Layout(planned_head(picture, Plan(colours, word=word, spares=spares)))


def front_price(head):
    """Return how many bytes the head chunk and the palette chunk, if there is one, have."""
    content = head.content()
    palette = 0 if head.colours == 0 else BARE + packed_length(head.colours * sum(head.depths))
    return BARE + len(content) + palette


def spare_price(layout, number):
    """Return how many bytes the spare chunk of the pass has, or 0 if there is none."""
    if layout.head.spares == 0:
        return 0
    bits = [count * width_of(modulus) for count, modulus in layout.spare_fields(number)]
    return BARE + 1 + packed_length(sum(bits))


def frame_price(layout):
    """Return how many bytes all chunks but the data chunks have."""
    spares = [spare_price(layout, number) for number in layout.passes_with_tracks()]
    return front_price(layout.head) + sum(spares) + BARE
