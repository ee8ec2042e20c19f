"""Knowledge, told by a walk over all sheets and all questions of a small size, to compare the program with."""

from itertools import product

from keptpictures.sheets.question import Question
from keptpictures.sheets.sheet import Sheet

WIDE = (1, 2, 3, 4, 6, 8, 9, 12)


def cells_of(width, height):
    return [(x, y) for y in range(height) for x in range(width)]


def all_sheets(modulus, width, height):
    """Return all sheets of a small size."""
    grids = product(range(modulus), repeat=width * height)
    return [Sheet(modulus, [grid[y * width:(y + 1) * width] for y in range(height)]) for grid in grids]


def worth(terms, sheet):
    return sum(weight * sheet.rows[y][x] for x, y, weight in terms)


def satisfies(sheet, facts):
    return all((worth(terms, sheet) - value) % sheet.modulus == 0 for terms, value in facts)


def fitting(modulus, width, height, facts):
    """Return all sheets that satisfy the facts."""
    return [sheet for sheet in all_sheets(modulus, width, height) if satisfies(sheet, facts)]


def answer_by_hand(sheets, question):
    """Return the set of the values of a question on these sheets."""
    return {question(sheet) for sheet in sheets}


def values_of(answer, modulus):
    """Return the set of the values that an answer stands for."""
    rest, step = answer
    return set(range(rest, modulus, step))


def holding(modulus, width, height, sheets):
    """Return a dict from the weights of each question that has one value on the sheets to this value."""
    found = {}
    cells = cells_of(width, height)
    for weights in product(range(modulus), repeat=len(cells)):
        terms = [(x, y, weight) for (x, y), weight in zip(cells, weights)]
        values = {worth(terms, sheet) % modulus for sheet in sheets}
        if len(values) == 1:
            found[weights] = values.pop()
    return found


def leads_by_hand(modulus, held, cells):
    """Return the lead of each cell."""
    leads = []
    for place in range(cells):
        own = [weights[place] for weights in held if not any(weights[:place])]
        leads.append(min([weight for weight in own if weight] + [modulus]))
    return leads


def normal_form_by_hand(modulus, width, height, sheets):
    """Return the facts of point 77, each found among all facts that hold."""
    held = holding(modulus, width, height, sheets)
    cells = cells_of(width, height)
    leads = leads_by_hand(modulus, held, len(cells))
    found = []
    for place, lead in enumerate(leads):
        if lead == modulus:
            continue
        own = [weights for weights in held if not any(weights[:place]) and weights[place] == lead
               and all(weight < later for weight, later in zip(weights[place + 1:], leads[place + 1:]))]
        assert len(own) == 1, own
        terms = tuple((x, y, weight) for (x, y), weight in zip(cells, own[0]) if weight)
        found.append((terms, held[own[0]]))
    return tuple(found)


def count_by_leads(modulus, width, height, sheets):
    held = holding(modulus, width, height, sheets)
    product_of_leads = 1
    for lead in leads_by_hand(modulus, held, width * height):
        product_of_leads *= lead
    return product_of_leads


def added_up(facts, factors, modulus):
    """Return the weights, by cell, and the value of the sum of the facts, each taken as often as its factor says."""
    weights, total = {}, 0
    for (terms, value), factor in zip(facts, factors):
        for x, y, weight in terms:
            weights[x, y] = (weights.get((x, y), 0) + factor * weight) % modulus
        total += factor * value
    return {cell: weight for cell, weight in weights.items() if weight}, total % modulus


def some_facts(chance, modulus, width, height, many, sheet=None, terms=4):
    """Return facts with any weights; they are true of the sheet, if there is one."""
    facts = []
    for _ in range(many):
        own = [(chance.randrange(width), chance.randrange(height), some_weight(chance, modulus))
               for _ in range(chance.randint(0, terms))]
        value = chance.randrange(modulus) if sheet is None else worth(own, sheet) + modulus * chance.randint(-2, 2)
        facts.append((own, value))
    return facts


def some_weight(chance, modulus):
    divisors = [number for number in range(1, modulus + 1) if modulus % number == 0 and modulus < 100] or [1]
    kind = chance.random()
    if kind < 0.5:
        return chance.choice(divisors) * chance.randint(-3, 3)
    return chance.randint(-10 ** 60 + 1, 10 ** 60 - 1) if kind < 0.6 else chance.randrange(modulus)


def some_question(chance, modulus, width, height, terms=4):
    return Question([(chance.randrange(width), chance.randrange(height), some_weight(chance, modulus))
                     for _ in range(chance.randint(0, terms))])


def kept_form(facts, modulus):
    """Return facts as knowledge lists them."""
    found = []
    for terms, value in facts:
        weights = {}
        for x, y, weight in terms:
            weights[y, x] = (weights.get((y, x), 0) + weight) % modulus
        found.append((tuple((x, y, weight) for (y, x), weight in sorted(weights.items()) if weight), value % modulus))
    return found
