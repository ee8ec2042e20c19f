"""What remains show: the values that samples can have, and the picture if there is only one."""

from keptpictures.files.bodies import picture_of_body
from keptpictures.knowledge.facts import known
from keptpictures.sheets.cells import require_cell
from keptpictures.sheets.question import Question


def sample_values(remains, x, y, plane):
    """Return the values that the sample of the plane at the cell (x, y) has in the pictures that fit."""
    head = remains.head
    require_cell(x, y, head.width, head.height)
    told = known(remains)
    if head.colours > 0 and remains.palette is None:
        return list(range(1 << head.depths[plane]))
    z = plane if head.colours == 0 else 0
    rest, step = told.answer(z, Question.cell(x, y))
    values = range(rest, head.moduli[z], step)
    if head.colours == 0:
        return list(values)
    return sorted({remains.palette[number][plane] for number in values})


def restored(remains):
    """Return the only picture that fits, or None."""
    told = known(remains)
    head = remains.head
    if told.count() != 1 or (head.colours > 0 and remains.palette is None):
        return None
    body = [told.least_sheet(z) for z in range(len(head.moduli))]
    return picture_of_body(body, remains.palette, head.mask)
