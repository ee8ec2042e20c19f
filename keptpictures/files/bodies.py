"""Bodies: the sheets of a file."""

from keptpictures.passes.tracks import tracks
from keptpictures.pictures.picture import Picture


def body_of(picture, palette=None):
    """Return the planes of the picture, or its index sheet alone."""
    if palette is None:
        return picture.planes
    return (palette.indexed(picture),)


def picture_of_body(body, palette, mask):
    """Return the picture that has this body with the palette, or with none."""
    if palette is None:
        return Picture(body, mask)
    return palette.painted(body[0], mask)


def spare_rows(body, word, number, spares):
    """Return the spares of the pass, by number and then by sheet."""
    first = body[0]
    listed = [track for track in tracks(first.width, first.height, word) if track[0] == number]
    return tuple([spare_row(sheet, listed, power) for power in range(spares) for sheet in body])


def spare_row(sheet, listed, power):
    """Return the sums of the listed tracks, each track weighted by this power of its place, counted from 1."""
    _, _, first, step, count = listed[0]
    sums = [0] * count
    for place, (_, y, _, _, _) in enumerate(listed):
        weight = spare_weight(place, power)
        for at in range(count):
            sums[at] = (sums[at] + weight * sheet.rows[y][first + at * step]) % sheet.modulus
    return tuple(sums)


def spare_weight(place, power):
    """Return the weight of the track at this place of a pass in the spare with this number."""
    weight = 1
    for _ in range(power):
        weight = weight * (place + 1)
    return weight
