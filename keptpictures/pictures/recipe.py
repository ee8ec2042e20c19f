"""Recipes: what a list of edits does to every picture of a shape."""

from keptpictures.errors import BadEdit, Unlike
from keptpictures.pictures.colours import shifted_colour
from keptpictures.pictures.edits import cell_entries, edit_fits, edit_shifts, edited_entries, edited_shape
from keptpictures.pictures.picture import picture_of_rows, shape_of


class Recipe:
    """An entry for each cell of the shape after, and a shift for each plane."""

    def __init__(self, before, after, entries, shifts):
        self.before = before
        self.after = after
        self.entries = tuple([tuple(row) for row in entries])
        self.shifts = settled_shifts(self.entries, shifts, before[2])

    def __eq__(self, other):
        return (isinstance(other, Recipe) and self.before == other.before and self.after == other.after
                and self.entries == other.entries and self.shifts == other.shifts)

    def __call__(self, picture):
        if shape_of(picture) != self.before:
            raise Unlike()
        rows = [[entry_colour(entry, picture, self.shifts) for entry in row] for row in self.entries]
        return picture_of_rows(picture.depths, rows, picture.mask)

    def __rshift__(self, other):
        if self.after != other.before:
            raise Unlike()
        entries = [[traced_entry(entry, self, other) for entry in row] for row in other.entries]
        shifts = [first + second for first, second in zip(self.shifts, other.shifts)]
        return Recipe(self.before, other.after, entries, shifts)

    def undone(self):
        """Return the recipe that undoes this one, or None if cells are lost."""
        places = {}
        for y, row in enumerate(self.entries):
            for x, entry in enumerate(row):
                places[entry] = ("cell", x, y)
        entries = [[places.get(cell) for cell in row] for row in cell_entries(self.before)]
        if any([None in row for row in entries]):
            return None
        return Recipe(self.after, self.before, entries, [-shift for shift in self.shifts])


def settled_shifts(entries, shifts, depths):
    """Return the only shifts that a recipe with these entries may have for the given ones."""
    if not any([entry[0] == "cell" for row in entries for entry in row]):
        return tuple([0] * len(depths))
    return tuple([shift % (1 << depth) for shift, depth in zip(shifts, depths)])


def entry_colour(entry, picture, shifts):
    """Return the colour that an entry gives, when the recipe is applied to the picture."""
    if entry[0] == "colour":
        return entry[1]
    _, x, y = entry
    return shifted_colour(picture.rows[y][x], shifts, picture.depths)


def traced_entry(entry, first, second):
    """Return the entry that does what the first recipe and then this entry of the second one do."""
    if entry[0] == "colour":
        return entry
    _, x, y = entry
    earlier = first.entries[y][x]
    if earlier[0] == "cell":
        return earlier
    return ("colour", shifted_colour(earlier[1], second.shifts, second.before[2]))


def edit_recipe(shape, edit):
    """Return the recipe of one edit that fits the shape."""
    entries = edited_entries(cell_entries(shape), edit)
    return Recipe(shape, edited_shape(shape, edit), entries, edit_shifts(edit, shape[2]))


def recipe_of(shape, *edits):
    """Return the recipe of the edits for pictures of the shape."""
    width, height, depths = shape
    before = (width, height, tuple(depths))
    recipe = Recipe(before, before, cell_entries(before), [0] * len(depths))
    for place, edit in enumerate(edits):
        if not edit_fits(edit, recipe.after):
            raise BadEdit(place)
        recipe = recipe >> edit_recipe(recipe.after, edit)
    return recipe


def apply_edits(picture, edits):
    """Return the picture after the edits."""
    shape = shape_of(picture)
    recipe = recipe_of(shape, *edits)
    return recipe(picture)


def parting_picture(one, other):
    """Return a picture to which the recipes do not do the same, or None."""
    if one.before != other.before:
        raise Unlike()
    if one == other:
        return None
    width, height, depths = one.before
    zero = tuple([0] * len(depths))
    rows = [[zero] * width for _ in range(height)]
    blank = picture_of_rows(depths, rows, False)
    if one(blank) != other(blank):
        return blank
    # What the recipes make of a blank picture agrees: they differ only in which cells they take.
    x, y = parting_cell(one, other)
    rows[y][x] = (1,) + zero[1:]
    return picture_of_rows(depths, rows, False)


def parting_cell(one, other):
    """Return the first old cell that just one of the recipes takes to some place."""
    taken = [
        entry
        for row, others in zip(one.entries, other.entries)
        for pair in zip(row, others)
        if pair[0] != pair[1]
        for entry in pair
        if entry[0] == "cell"
    ]
    _, x, y = taken[0]
    return (x, y)
