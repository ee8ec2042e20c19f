"""Colours: one sample for each plane of a picture."""


def colour_fits(colour, depths):
    """Tell whether a colour has one sample of each depth."""
    if len(colour) != len(depths):
        return False
    return all([0 <= sample < (1 << depth) for sample, depth in zip(colour, depths)])


def shifted_colour(colour, shifts, depths):
    """Return the colour with a shift added to each sample, modulo 2 ** depth."""
    return tuple([(sample + shift) % (1 << depth) for sample, shift, depth in zip(colour, shifts, depths)])
