"""Facts: what each number that is left of a file says about the samples."""

from keptpictures.files.bodies import spare_weight
from keptpictures.files.contents import read_data, read_spare
from keptpictures.files.layout import Layout
from keptpictures.filters.folds import unfold
from keptpictures.filters.prediction import near_cells
from keptpictures.knowledge.knowledge import Knowledge, require_small, stated_fact


def facts_of(remains, z):
    """Return the facts of the remains about the sheet number z."""
    layout = Layout(remains.head)
    facts = []
    for content in remains.data:
        facts.extend(data_facts(layout, content, z))
    for content in remains.spares:
        facts.extend(spare_facts(layout, content, z))
    return facts


def known(remains):
    """Return the knowledge that the remains tell."""
    head = remains.head
    # Where there are too many cells, the facts need not be listed.
    require_small(head.width, head.height, [])
    facts = [facts_of(remains, z) for z in range(len(head.moduli))]
    return Knowledge(head.width, head.height, head.moduli, facts)


def data_facts(layout, content, z):
    """Return the facts of a data content about the sheet number z."""
    first, _, filters, rows = read_data(layout.head, content)
    facts = []
    for lane, (number, row) in enumerate(zip(filters, rows), start=first):
        if layout.sheet_of(lane) == z:
            facts.extend(lane_facts(layout, layout.track_of(lane), number, row, layout.moduli[z]))
    return facts


def lane_facts(layout, track, number, row, modulus):
    """Return the facts that a track has this row of numbers with the filter of this number."""
    own, y, first, step, _ = track
    near = near_cells(number, layout.head.word, own)
    facts = []
    for place, folded in enumerate(row):
        x = first + place * step
        terms = [(x, y, 1)]
        for dx, dy, weight in near:
            if 0 <= x + dx < layout.head.width and 0 <= y + dy < layout.head.height:
                terms.append((x + dx, y + dy, -weight))
        facts.append(stated_fact(terms, unfold(folded, modulus), modulus))
    return facts


def spare_facts(layout, content, z):
    """Return the facts of a spare content about the sheet number z."""
    number, rows = read_spare(layout.head, content)
    listed = [track for track in layout.listed if track[0] == number]
    facts = []
    for power, row in enumerate(rows[z::len(layout.moduli)]):
        for at, spare in enumerate(row):
            terms = []
            for place, (_, y, first, step, _) in enumerate(listed):
                terms.append((first + at * step, y, spare_weight(place, power)))
            facts.append(stated_fact(terms, spare, layout.moduli[z]))
    return facts
