"""Edited knowledge: what is known of pictures after a recipe was applied to them."""

from keptpictures.errors import Unlike
from keptpictures.knowledge.knowledge import Knowledge
from keptpictures.knowledge.spans import empty_rows, enlarged
from keptpictures.palettes.palette import shifted_palette


def edited(knowledge, recipe):
    """Return the knowledge about the planes of the pictures that the recipe makes."""
    width, height, depths = recipe.before
    moduli = tuple([1 << depth for depth in depths])
    if (knowledge.width, knowledge.height, knowledge.moduli) != (width, height, moduli):
        raise Unlike()
    facts = []
    for z, shift in enumerate(recipe.shifts):
        samples = {colour: colour[z] for colour in entry_colours(recipe)}
        facts.append(edited_facts(knowledge, z, recipe.entries, samples, shift))
    return settled(recipe.after[0], recipe.after[1], moduli, facts)


def edited_colours(knowledge, palette, recipe):
    """Return the knowledge about the index sheets of the pictures that the recipe makes, and their palette."""
    before = (knowledge.width, knowledge.height, palette.depths)
    if knowledge.moduli != (len(palette),) or recipe.before != before:
        raise Unlike()
    shifted = shifted_palette(palette, recipe.shifts)
    numbers = {colour: shifted.index(colour) for colour in entry_colours(recipe)}
    facts = edited_facts(knowledge, 0, recipe.entries, numbers, 0)
    return (settled(recipe.after[0], recipe.after[1], knowledge.moduli, [facts]), shifted)


def entry_colours(recipe):
    """Return the colours of the recipe's entries, in row order."""
    return [entry[1] for row in recipe.entries for entry in row if entry[0] == "colour"]


def edited_facts(knowledge, z, entries, samples, shift):
    """Return the facts about the sheet number z after these entries, where samples tells what a colour becomes."""
    places = {}
    facts = []
    for y, row in enumerate(entries):
        for x, entry in enumerate(row):
            if entry[0] == "colour":
                facts.append((((x, y, 1),), samples[entry[1]]))
            else:
                places[(entry[1], entry[2])] = (x, y)
    for terms, value in facts_about(knowledge, z, places):
        moved = [places[(x, y)] + (weight,) for x, y, weight in terms]
        facts.append((moved, value + shift * sum([weight for _, _, weight in moved])))
    return facts


def facts_about(knowledge, z, places):
    """Return facts that tell all that is known about these cells of the sheet number z, and are about no others."""
    cells = [(x, y) for y in range(knowledge.height) for x in range(knowledge.width)]
    # Facts about the cells behind alone are what the echelon form has in the rows behind.
    order = [cell for cell in cells if cell not in places] + [cell for cell in cells if cell in places]
    vectors = []
    for terms, value in knowledge.normal_form(z):
        weights = {(x, y): weight for x, y, weight in terms}
        vectors.append([weights.get(cell, 0) for cell in order] + [value])
    rows, _ = enlarged(empty_rows(len(order) + 1), vectors, knowledge.moduli[z])
    facts = []
    for place in range(len(order) - len(places), len(order)):
        *weights, value = rows[place]
        facts.append(([(*cell, weight) for cell, weight in zip(order[place:], weights)], value))
    return facts


def settled(width, height, moduli, facts):
    """Return the knowledge that these facts tell, with its normal form as its facts."""
    told = Knowledge(width, height, moduli, facts)
    return Knowledge(width, height, moduli, [told.normal_form(z) for z in range(len(moduli))])
