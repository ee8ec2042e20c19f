"""Cheapest plans: those of a family whose files have the fewest bytes."""

from keptpictures.errors import TooMany
from keptpictures.files.bodies import body_of
from keptpictures.files.plan import Plan
from keptpictures.planning.family import whole_family
from keptpictures.planning.frames import form_layout, form_palettes, frame_price
from keptpictures.planning.stretches import chosen_cuts, least_prices


def cheapest(picture, *, orders=("none", "value", "first", "often"), words=("",), spares=0, careful=False):
    """Return the plan of the family with the least price."""
    least = None
    chosen = None
    for palette in form_palettes(picture, orders):
        body = body_of(picture, palette)
        for word in words:
            family = whole_family(body, word, careful)
            units = [family.unit_bits(first, end) for first, end in family.bounds]
            layout = form_layout(picture, palette, word, spares)
            number = frame_price(layout) + sum([least_prices(own, family.most)[0] for own in units])
            if least is None or number < least:
                least = number
                chosen = (palette, word, family, units)
    if chosen is None:
        raise TooMany(len(picture.colour_list()))
    palette, word, family, units = chosen
    colours = None if palette is None else palette.entries
    return Plan(colours, word=word, spares=spares, chunks=cheapest_chunks(family, units))


def cheapest_chunks(family, units):
    """Return the chunks (count, preset, filters) that have the least price."""
    chunks = []
    for (lane, _), pass_units in zip(family.bounds, units):
        for many, preset in chosen_cuts(pass_units, family.most):
            count = many * family.unit
            filters = [family.least_filter(lane + at, preset) for at in range(count)]
            chunks.append((count, preset, filters))
            lane += count
    return chunks
