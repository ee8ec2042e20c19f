"""Separating files: two files with all that is left, which answer a question in two ways."""

from keptpictures.hurts.fitting import whole_file
from keptpictures.knowledge.facts import known


def separating_files(remains, z, question):
    """Return two files in which the question has the least value and the next one, or None if it has one value."""
    told = known(remains)
    rest, step = told.answer(z, question)
    change = told.step_sheet(z, question)
    if change is None:
        return None
    body = [told.least_sheet(number) for number in range(len(told.moduli))]
    steps = (question(body[z]) - rest) // step
    first = body[z] - change * steps
    return (whole_file(remains, replaced(body, z, first)), whole_file(remains, replaced(body, z, first + change)))


def replaced(body, z, sheet):
    """Return the body with another sheet number z."""
    return tuple([sheet if number == z else own for number, own in enumerate(body)])
