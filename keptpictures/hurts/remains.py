"""Remains: what is left of a file in a byte text of any kind."""

from keptpictures.chunks.mending import mended
from keptpictures.chunks.pieces import is_sound, pieces
from keptpictures.chunks.sums import KINDS
from keptpictures.errors import BadContent, BadField, NoHead, Unlike
from keptpictures.files.colours import PaletteForm
from keptpictures.files.contents import DataForm, SpareForm
from keptpictures.files.forms import take_content
from keptpictures.files.head import HeadForm
from keptpictures.files.layout import Layout

FIELDS = ("start", "end", "kind", "state")


class Remains:
    """A head, perhaps a palette, the data and spare contents that are left, and a report; they never change."""

    def __init__(self, head, palette, data, spares, report):
        self.head = head
        self.palette = palette
        self.data = data
        self.spares = spares
        self.report = report


def salvage(data, *, head=None, palette=None, mend=False):
    """Return the remains in the byte text."""
    bounds = pieces(data)
    candidates = [candidate_of(data[start:end], mend) for start, end in bounds]
    chosen = []
    if head is None:
        place, head = found_head(candidates)
        chosen.append(place)
    if palette is not None and not suits(palette, head):
        raise Unlike()
    if palette is None and head.colours > 0:
        place, palette = found_palette(candidates, head)
        chosen.append(place)
    layout = Layout(head)
    states = [state_of(candidate, place in chosen, layout) for place, candidate in enumerate(candidates)]
    report = [(start, end, kind, state) for (start, end), (kind, _, _), state in zip(bounds, candidates, states)]
    kept = [(kind, content) for (kind, content, _), state in zip(candidates, states) if state in ("kept", "mended")]
    data_contents = tuple([content for kind, content in kept if is_kind(kind, "data")])
    spare_contents = tuple([content for kind, content in kept if is_kind(kind, "spare")])
    return Remains(head, palette, data_contents, spare_contents, tuple(report))


def candidate_of(piece, mend):
    """Return the kind and the content of a piece, and its state if it is kept; the kind is -1 if it is lost."""
    if is_sound(piece):
        return (piece[0] - 128, piece[1:-3], "kept")
    whole = mended(piece) if mend and 4 <= len(piece) <= 129 else None
    if whole is None:
        return (-1, (), "lost")
    return (whole[0] - 128, whole[1:-3], "mended")


def is_kind(kind, word):
    """Tell whether a candidate of this kind has this word for it."""
    return kind >= 0 and KINDS[kind] == word


def found_head(candidates):
    """Return the place of the first candidate that tells a head, and this head."""
    for place, (kind, content, _) in enumerate(candidates):
        form = HeadForm()
        if is_kind(kind, "head") and has_form(form, content):
            return (place, form.told())
    raise NoHead()


def suits(palette, head):
    """Tell whether a file with the head can have the palette."""
    return palette.depths == head.depths and len(palette) == head.colours


def found_palette(candidates, head):
    """Return the place of the first candidate that tells a palette for the head, and this palette, or two None."""
    for place, (kind, content, _) in enumerate(candidates):
        form = PaletteForm(head)
        if is_kind(kind, "palette") and has_form(form, content):
            return (place, form.told())
    return (None, None)


def has_form(form, content):
    """Tell whether the form takes the content as a whole."""
    try:
        take_content(form, content)
    except BadContent:
        return False
    return True


def state_of(candidate, is_chosen, layout):
    """Return what becomes of a candidate, which may have been chosen to tell the head or the palette."""
    kind, content, state = candidate
    if is_kind(kind, "head") or is_kind(kind, "palette"):
        return state if is_chosen else "idle"
    if is_kind(kind, "data"):
        return state if has_form(DataForm(layout), content) else "lost"
    if is_kind(kind, "spare") and layout.head.spares > 0:
        return state if has_form(SpareForm(layout), content) else "lost"
    if is_kind(kind, "end") and content == ():
        return "idle"
    return "lost"


def select_rows(report, **fields):
    """Return the rows of the report that have all these values in these fields."""
    others = sorted([name for name in fields if name not in FIELDS])
    if others:
        raise BadField(others[0])
    wanted = [(FIELDS.index(name), fields[name]) for name in fields]
    return [row for row in report if all([row[place] == worth for place, worth in wanted])]
