"""Fitting: bodies that agree with remains, and the files that they give."""

from keptpictures.errors import Unlike
from keptpictures.files.bodies import spare_rows
from keptpictures.files.colours import least_palette
from keptpictures.files.contents import MOST_LANES, data_content, read_data, read_spare
from keptpictures.files.layout import Layout
from keptpictures.files.writer import file_of
from keptpictures.filters.lanes import lane_numbers


def fits(remains, body):
    """Tell whether the body agrees with everything that is left."""
    head = remains.head
    if not is_body(head, body):
        return False
    layout = Layout(head)
    if not all([fits_data(layout, body, content) for content in remains.data]):
        return False
    for content in remains.spares:
        number, rows = read_spare(head, content)
        if spare_rows(body, head.word, number, head.spares) != rows:
            return False
    return True


def is_body(head, body):
    """Tell whether the sheets of the body have the size and the moduli of the head."""
    if tuple([sheet.modulus for sheet in body]) != head.moduli:
        return False
    return all([sheet.width == head.width and sheet.height == head.height for sheet in body])


def fits_data(layout, body, content):
    """Tell whether the lanes of the body have the numbers of the data content."""
    first, _, filters, rows = read_data(layout.head, content)
    for lane, (number, row) in enumerate(zip(filters, rows), start=first):
        sheet = body[layout.sheet_of(lane)]
        if lane_numbers(sheet, layout.track_of(lane), number, layout.head.word) != row:
            return False
    return True


def whole_file(remains, body):
    """Return the file with the body that keeps what is left, as far as its lanes do not stand twice."""
    if not fits(remains, body):
        raise Unlike()
    head = remains.head
    layout = Layout(head)
    palette = remains.palette
    if palette is None and head.colours > 0:
        palette = least_palette(head)
    held = [False] * layout.many
    contents = []
    for content in remains.data:
        first, _, filters, _ = read_data(head, content)
        end = first + len(filters)
        if not any(held[first:end]):
            held[first:end] = [True] * len(filters)
            contents.append((first, content))
    for first, count in missing_stretches(layout, held):
        contents.append((first, data_content(layout, body, first, 0, (0,) * count)))
    return file_of(layout, palette, body, sorted(contents))


def missing_stretches(layout, held):
    """Return the pairs (first lane, count) of the chunks for the lanes that are not held."""
    stretches = []
    for first, end in layout.bounds:
        lane = first
        while lane < end:
            count = missing_count(held, lane, end)
            if count > 0:
                stretches.append((lane, count))
            lane += max(count, 1)
    return stretches


def missing_count(held, lane, end):
    """Return how many lanes from this one on go into one chunk for lanes that are not held."""
    count = 0
    while lane + count < end and count < MOST_LANES and not held[lane + count]:
        count += 1
    return count
