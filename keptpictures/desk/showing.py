"""Showing: items of a desk as text."""

from keptpictures.desk.items import kind_of
from keptpictures.errors import NoHead
from keptpictures.hurts.remains import salvage
from keptpictures.hurts.survey import SummedSurvey
from keptpictures.sheets.question import Question


def shown(item):
    """Return the lines that show an item."""
    kind = kind_of(item)
    if kind == "picture":
        return tuple([shown_row(row) for row in item.rows])
    if kind == "file":
        return shown_file(item)
    return shown_knowledge(item)


def shown_row(row):
    """Return the line that shows a row of colours."""
    return " ".join([",".join([str(sample) for sample in colour]) for colour in row])


def shown_file(data):
    """Return the lines that show what is left of a file."""
    try:
        remains = salvage(data)
    except NoHead:
        return ("no head",)
    survey = SummedSurvey(remains)
    return tuple(survey.lines())


def shown_knowledge(told):
    """Return the lines that show how much is known of each sample."""
    lines = []
    for z in range(len(told.moduli)):
        for y in range(told.height):
            lines.append("".join([sample_sign(told, z, x, y) for x in range(told.width)]))
    return tuple(lines)


def sample_sign(told, z, x, y):
    """Return the sign for what is known of a sample: all, nothing, or something between."""
    _, step = told.answer(z, Question.cell(x, y))
    if step == told.moduli[z]:
        return "#"
    return "?" if step == 1 else "+"
