"""Prices: how many bytes stretches of lanes have."""

from keptpictures.planning.family import Family, whole_family
from keptpictures.planning.stretches import data_price, least_prices


def stretch_price(body, word, first, count, preset, *, careful=False):
    """Return the price of so many lanes from the first one on with this preset and the best filters."""
    family = Family(body, word, careful, [preset])
    bits = [family.lane_bits(lane)[0] for lane in range(first, first + count)]
    return data_price(sum(bits))


def potentials(body, word="", *, careful=False):
    """Return, for each pass, the least prices of its lanes from each place on at which a chunk can begin."""
    family = whole_family(body, word, careful)
    units = [family.unit_bits(first, end) for first, end in family.bounds]
    return [tuple(least_prices(pass_units, family.most)) for pass_units in units]
