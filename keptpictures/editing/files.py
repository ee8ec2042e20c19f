"""Edited files: files of edited pictures that keep as much of the old file as they can."""

from keptpictures.chunks.sums import KINDS
from keptpictures.errors import TooMany
from keptpictures.files.bodies import body_of
from keptpictures.files.contents import data_content, read_data
from keptpictures.files.layout import Layout
from keptpictures.files.plan import Plan, even_plan
from keptpictures.files.whole import chunks_of, reader_of
from keptpictures.files.writer import file_of, planned_head, write_file
from keptpictures.hurts.fitting import fits_data
from keptpictures.palettes.palette import Palette, shifted_palette
from keptpictures.pictures.picture import shape_of
from keptpictures.pictures.recipe import recipe_of


def edit_file(data, edits):
    """Return the file of the edited picture."""
    reader = reader_of(data)
    picture = reader.picture()
    plan = reader.plan()
    shape = shape_of(picture)
    recipe = recipe_of(shape, *edits)
    after = recipe(picture)
    palette = edited_palette(plan.palette, recipe, after)
    colours = None if palette is None else palette.entries
    bare = Plan(colours, word=plan.word, spares=plan.spares)
    if planned_head(after, bare) != planned_head(picture, plan):
        return write_file(after, even_plan(after, palette=colours, word=plan.word, spares=plan.spares))
    return kept_file(data, Layout(planned_head(after, bare)), palette, body_of(after, palette))


def edited_palette(colours, recipe, after):
    """Return the palette of the edited file, or None if the file has none."""
    if colours is None:
        return None
    palette = shifted_palette(Palette(colours, recipe.before[2]), recipe.shifts)
    added = {}
    for row in after.rows:
        for colour in row:
            if colour not in palette:
                added[colour] = True
    number = len(palette) + len(added)
    if number > Palette.LIMIT:
        raise TooMany(number)
    return Palette(palette.entries + tuple(added), palette.depths)


def kept_file(data, layout, palette, body):
    """Return the file with the body and the palette that keeps each data chunk of a file that has the same numbers."""
    contents = []
    for kind, content in chunks_of(data):
        if KINDS[kind] == "data":
            first, code, filters, _ = read_data(layout.head, content)
            is_kept = fits_data(layout, body, content)
            contents.append((first, content if is_kept else data_content(layout, body, first, code, filters)))
    return file_of(layout, palette, body, contents)


def changed_chunks(one, other):
    """Return the numbers of the chunks that are not the same in two files."""
    chunks = list(chunks_of(one))
    others = list(chunks_of(other))
    least = min(len(chunks), len(others))
    changed = [k for k in range(least) if chunks[k] != others[k]]
    return changed + list(range(least, max(len(chunks), len(others))))
