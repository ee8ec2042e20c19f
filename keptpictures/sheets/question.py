"""Questions: weighted sums of cells."""

from keptpictures.sheets.cells import require_cell
from keptpictures.sheets.sheet import Sheet


class Question:
    """A weighted sum of cells, kept as its normal terms."""

    def __init__(self, terms):
        self.terms = normal_terms(terms)

    def __eq__(self, other):
        return isinstance(other, Question) and self.terms == other.terms

    def __call__(self, sheet):
        return sum([weight * sheet[x, y] for x, y, weight in self.terms]) % sheet.modulus

    def __add__(self, other):
        return Question(self.terms + other.terms)

    def __sub__(self, other):
        return self + -other

    def __neg__(self):
        return self * -1

    def __mul__(self, other):
        return Question([(x, y, weight * other) for x, y, weight in self.terms])

    def __rmul__(self, other):
        return self * other

    @staticmethod
    def cell(x, y):
        """Return the question for the sample of one cell."""
        return Question([(x, y, 1)])


def normal_terms(terms):
    """Return one term for each cell whose weights do not add up to 0, in row order."""
    weights = {}
    for x, y, weight in terms:
        weights[(y, x)] = weights.get((y, x), 0) + weight
    return tuple([(x, y, weights[(y, x)]) for y, x in sorted(weights) if weights[(y, x)] != 0])


def joined(*questions):
    """Return the sum of the questions."""
    return Question([term for question in questions for term in question.terms])


def parting_sheet(one, other, modulus, width, height):
    """Return a sheet on which the questions have different values, or None."""
    for x, y, _ in one.terms + other.terms:
        require_cell(x, y, width, height)
    difference = one - other
    for x, y, weight in difference.terms:
        if weight % modulus != 0:
            return Sheet.even(modulus, width, height).changed(x, y, 1)
    return None
