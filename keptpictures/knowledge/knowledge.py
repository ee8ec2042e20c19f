"""Knowledge: facts about the sheets of a body, and all that follows from them."""

from keptpictures.errors import Clash, TooLarge, Unlike
from keptpictures.knowledge.spans import (common_rows, empty_rows, enlarged, inserted, lead_of, least_solution,
                                          multipliers, reached, settled_rows)
from keptpictures.sheets.cells import require_cell
from keptpictures.sheets.question import Question, normal_terms
from keptpictures.sheets.sheet import Sheet

MOST_CELLS = 64
MOST_FACTS = 400


class Knowledge:
    """Facts about the bodies of a size and moduli, of which at least one fits; they never change."""

    def __init__(self, width, height, moduli, facts):
        require_small(width, height, facts)
        require_inside(width, height, facts)
        self.width = width
        self.height = height
        self.moduli = tuple(moduli)
        self._facts = [stated_facts(listed, modulus) for listed, modulus in zip(facts, self.moduli)]
        systems = [told_rows(z, modulus, self._facts[z], width, height) for z, modulus in enumerate(self.moduli)]
        self._rows = [rows for rows, _ in systems]
        self._trails = [trail for _, trail in systems]
        self._forms = [facts_of_rows(rows, width, modulus) for rows, modulus in zip(self._rows, self.moduli)]

    def __eq__(self, other):
        return isinstance(other, Knowledge) and is_alike(self, other) and self._forms == other._forms

    def __and__(self, other):
        require_same_bodies(self, other)
        facts = [listed + added for listed, added in zip(self._facts, other._facts)]
        return Knowledge(self.width, self.height, self.moduli, facts)

    def __or__(self, other):
        require_same_bodies(self, other)
        facts = []
        for rows, others, modulus in zip(self._rows, other._rows, self.moduli):
            facts.append(facts_of_rows(common_rows(rows, others, modulus), self.width, modulus))
        return Knowledge(self.width, self.height, self.moduli, facts)

    def tells(self, other):
        """Tell whether every body that fits this knowledge fits the other one."""
        require_same_bodies(self, other)
        for z, modulus in enumerate(self.moduli):
            for terms, value in other.normal_form(z):
                if self.answer(z, Question(terms)) != (value, modulus):
                    return False
        return True

    def facts(self, z):
        """Return the facts of the sheet as they are listed."""
        return list(self._facts[z])

    def normal_form(self, z):
        """Return the facts of the sheet to which all knowledge that tells the same comes down."""
        return self._forms[z]

    def answer(self, z, question):
        """Return (rest, step): the question has the values rest, rest + step, and so on."""
        times, _, total = self._reached(z, question)
        step = self.moduli[z] // times
        return (total // times % step, step)

    def certificate(self, z, question):
        """Return how often each fact is taken to show that the question has no other values than the answer's."""
        _, taken, _ = self._reached(z, question)
        return multipliers(self._trails[z], taken + [0], len(self._facts[z]), self.moduli[z])

    def step_sheet(self, z, question):
        """Return a sheet that changes the question by the answer's step and no fact, or None if it has one value."""
        _, step = self.answer(z, question)
        modulus = self.moduli[z]
        if step == modulus:
            return None
        rows = [row[:-1] + [0] for row in self._rows[z]]
        vector = weight_vector(question.terms, self.width, self.height, modulus) + [step]
        found, _ = inserted(rows, vector, modulus)
        return self._least(found, modulus)

    def count(self):
        """Return how many bodies fit."""
        number = 1
        for rows, modulus in zip(self._rows, self.moduli):
            for row in rows[:-1]:
                number = number * lead_of(row, modulus)
        return number

    def least_sheet(self, z):
        """Return the fitting sheet whose samples, from the last cell to the first, are least."""
        return self._least(self._rows[z], self.moduli[z])

    def allows(self, body):
        """Tell whether the body fits."""
        if tuple([sheet.modulus for sheet in body]) != self.moduli:
            return False
        if not all([sheet.width == self.width and sheet.height == self.height for sheet in body]):
            return False
        return all([is_true(fact, sheet) for sheet, form in zip(body, self._forms) for fact in form])

    def _reached(self, z, question):
        """Return the least multiple of the question that the facts tell, how often each row is taken, and its value."""
        for x, y, _ in question.terms:
            require_cell(x, y, self.width, self.height)
        modulus = self.moduli[z]
        vector = weight_vector(question.terms, self.width, self.height, modulus) + [0]
        times, taken, rest = reached(self._rows[z][:-1], vector, modulus)
        return (times, taken, -rest[0] % modulus)

    def _least(self, rows, modulus):
        """Return the sheet of the least samples that the rows are true of."""
        samples = least_solution(rows[:-1], modulus)
        return Sheet(modulus, [samples[y * self.width:(y + 1) * self.width] for y in range(self.height)])


def require_small(width, height, facts):
    """Raise TooLarge if there are more cells or facts than knowledge is kept about."""
    if width * height > MOST_CELLS or any([len(listed) > MOST_FACTS for listed in facts]):
        raise TooLarge()


def require_inside(width, height, facts):
    """Raise NoCell if a term of the facts lies outside."""
    for listed in facts:
        for terms, _ in listed:
            for x, y, _ in terms:
                require_cell(x, y, width, height)


def is_alike(one, other):
    """Tell whether two pieces of knowledge are about bodies of one size with the same moduli."""
    return one.width == other.width and one.height == other.height and one.moduli == other.moduli


def require_same_bodies(one, other):
    """Raise Unlike unless two pieces of knowledge are about bodies of one size with the same moduli."""
    if not is_alike(one, other):
        raise Unlike()


def stated_facts(listed, modulus):
    """Return the facts in the form in which knowledge keeps them."""
    return [stated_fact(terms, value, modulus) for terms, value in listed]


def stated_fact(terms, value, modulus):
    """Return the fact with normal terms, whose weights and whose value are taken modulo the modulus."""
    weights = [(x, y, weight % modulus) for x, y, weight in normal_terms(terms)]
    return (tuple([term for term in weights if term[2] > 0]), value % modulus)


def told_rows(z, modulus, listed, width, height):
    """Return the rows and the trail of the facts of the sheet number z, and raise Clash if no sheet satisfies them."""
    cells = width * height
    vectors = [fact_vector(fact, width, height) for fact in listed]
    rows, trail = enlarged(empty_rows(cells + 1), vectors, modulus)
    # The last place is the value: a row that begins there says that 0 is another number.
    if rows[-1] != [0]:
        taken = [0] * cells + [1]
        raise Clash(z, multipliers(trail, taken, len(listed), modulus))
    return (rows, trail)


def weight_vector(terms, width, height, modulus):
    """Return the weights of all cells in row order."""
    weights = [0] * (width * height)
    for x, y, weight in terms:
        weights[y * width + x] = weight % modulus
    return weights


def fact_vector(fact, width, height):
    """Return the weights of all cells in row order, and behind them the value."""
    weights = [0] * (width * height)
    terms, value = fact
    for x, y, weight in terms:
        weights[y * width + x] = weight
    return weights + [value]


def facts_of_rows(rows, width, modulus):
    """Return the normal form of the span of rows."""
    facts = []
    for place, row in enumerate(settled_rows(rows, modulus)):
        if row[0] > 0:
            weights = [(place + at, weight) for at, weight in enumerate(row[:-1]) if weight > 0]
            facts.append((tuple([(cell % width, cell // width, weight) for cell, weight in weights]), row[-1]))
    return tuple(facts)


def is_true(fact, sheet):
    """Tell whether the fact, whose cells lie inside, is true of the sheet."""
    terms, value = fact
    return sum([weight * sheet.rows[y][x] for x, y, weight in terms]) % sheet.modulus == value
