"""Writing: pictures and plans as files."""

from keptpictures.chunks.sums import KINDS, write_chunk
from keptpictures.errors import BadPlan
from keptpictures.files.bodies import body_of, spare_rows
from keptpictures.files.coding import is_code
from keptpictures.files.colours import palette_content
from keptpictures.files.contents import MOST_LANES, data_content, spare_content
from keptpictures.files.head import Head
from keptpictures.files.layout import Layout
from keptpictures.palettes.palette import Palette
from keptpictures.passes.tracks import is_word


def write_file(picture, plan):
    """Return the file with the picture and the plan."""
    if not (is_word(plan.word) and 0 <= plan.spares <= 3):
        raise BadPlan(-1)
    palette = None if plan.palette is None else Palette(plan.palette, picture.depths)
    body = body_of(picture, palette)
    layout = Layout(planned_head(picture, plan))
    require_chunks(plan.chunks, layout)
    contents = []
    lane = 0
    for count, code, filters in plan.chunks:
        contents.append((lane, data_content(layout, body, lane, code, filters)))
        lane += count
    return file_of(layout, palette, body, contents)


def planned_head(picture, plan):
    """Return the head of the file with the picture and the plan."""
    colours = 0 if plan.palette is None else len(plan.palette)
    return Head(picture.width, picture.height, picture.depths, picture.mask,
                colours=colours, word=plan.word, spares=plan.spares)


def require_chunks(chunks, layout):
    """Refuse the chunks of a plan that do not fit, or do not hold all lanes."""
    lane = 0
    for place, (count, code, filters) in enumerate(chunks):
        if lane == layout.many or not 1 <= count <= min(MOST_LANES, layout.pass_end(lane) - lane):
            raise BadPlan(place)
        if not is_code(code, layout.greatest):
            raise BadPlan(place)
        if len(filters) != count or not all([0 <= number <= 7 for number in filters]):
            raise BadPlan(place)
        lane += count
    if lane < layout.many:
        raise BadPlan(len(chunks))


def file_of(layout, palette, body, contents):
    """Return the file with the body and these data contents, given with their first lanes, in order."""
    head = layout.head
    row = [("head", head.content())]
    if palette is not None:
        row.append(("palette", palette_content(palette)))
    for number in layout.passes_with_tracks():
        first, end = layout.bounds[number]
        row.extend([("data", content) for lane, content in contents if first <= lane < end])
        if head.spares > 0:
            rows = spare_rows(body, head.word, number, head.spares)
            row.append(("spare", spare_content(layout, number, rows)))
    row.append(("end", ()))
    return joined_chunks(row)


def joined_chunks(row):
    """Return the bytes of the chunks with these words for their kinds and these contents."""
    whole = []
    for word, content in row:
        whole.extend(write_chunk(KINDS.index(word), content))
    return tuple(whole)
