"""Edits: which of them fit a shape, and what one of them does to the cells."""

from keptpictures.pictures.colours import colour_fits


def edit_fits(edit, shape):
    """Tell whether an edit fits a shape."""
    word = edit[0]
    depths = shape[2]
    if word == "paint":
        return is_inside(edit[1:5], shape) and colour_fits(edit[5], depths)
    if word == "cut":
        return is_inside(edit[1:5], shape)
    if word == "shift":
        return 0 <= edit[1] < len(depths)
    return True


def is_inside(rectangle, shape):
    """Tell whether a rectangle has cells and lies inside a shape."""
    x, y, width, height = rectangle
    if x < 0 or y < 0 or width < 1 or height < 1:
        return False
    return x + width <= shape[0] and y + height <= shape[1]


def cell_entries(shape):
    """Return rows of entries that leave each cell of a shape where it is."""
    return [[("cell", x, y) for x in range(shape[0])] for y in range(shape[1])]


def edited_entries(entries, edit):
    """Return the rows of entries after an edit, whose shift is not looked at."""
    word = edit[0]
    if word == "paint":
        return painted_entries(entries, edit)
    if word == "mirror":
        return [row[::-1] for row in entries]
    if word == "flip":
        return entries[::-1]
    if word == "turn":
        return list(zip(*entries))
    if word == "cut":
        _, x, y, width, height = edit
        return [row[x:x + width] for row in entries[y:y + height]]
    return entries


def painted_entries(entries, edit):
    """Return the rows of entries after an edit that paints a rectangle."""
    _, x, y, width, height, colour = edit
    paint = [("colour", colour)] * width
    painted = [row[:x] + paint + row[x + width:] for row in entries[y:y + height]]
    return entries[:y] + painted + entries[y + height:]


def edited_shape(shape, edit):
    """Return the shape of what an edit leaves of a shape."""
    width, height, depths = shape
    if edit[0] == "turn":
        return (height, width, depths)
    if edit[0] == "cut":
        return (edit[3], edit[4], depths)
    return shape


def edit_shifts(edit, depths):
    """Return what an edit adds to the samples of each plane."""
    shifts = [0] * len(depths)
    if edit[0] == "shift":
        _, plane, amount = edit
        shifts[plane] = amount
    return shifts
