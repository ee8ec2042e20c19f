"""Budgets: how much of a picture the first bytes of a file can hold."""

from keptpictures.errors import TooMany
from keptpictures.files.bodies import body_of
from keptpictures.planning.family import whole_family
from keptpictures.planning.frames import form_layout, form_palettes, front_price, spare_price
from keptpictures.planning.stretches import least_prices


def most_lanes(picture, budget, *, order="none", word="", spares=0):
    """Return the greatest number of lanes that the first bytes of a file, as many as the budget says, can hold."""
    palettes = form_palettes(picture, (order,))
    if not palettes:
        raise TooMany(len(picture.colour_list()))
    palette = palettes[0]
    layout = form_layout(picture, palette, word, spares)
    family = whole_family(body_of(picture, palette), word, False)
    spent = front_price(layout.head)
    lanes = 0
    for number in layout.passes_with_tracks():
        first, end = family.bounds[number]
        prices = front_prices(family.unit_bits(first, end), family.most)
        lanes += len([price for price in prices if spent + price <= budget])
        if lanes < end:
            break
        spent += prices[-1] + spare_price(layout, number)
    return lanes


def front_prices(units, most):
    """Return the least prices of the chunks that hold the first unit alone, the first two units, and so on."""
    # Chunks may be cut from the last unit on as well as from the first one on.
    prices = least_prices(units[::-1], most)
    return prices[-2::-1]
