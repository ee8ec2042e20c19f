"""A desk as the document tells it, command by command, to compare the program with."""

from keptpictures.chunks.mending import mended
from keptpictures.chunks.pieces import pieces
from keptpictures.editing.files import edit_file
from keptpictures.errors import (BadPicture, BadPlan, Coloured, KeepError, NoCell, NoHead, NoName, NoPlace, TooLarge,
                                 WrongKind)
from keptpictures.files.whole import read_file
from keptpictures.files.writer import write_file
from keptpictures.hurts.remains import salvage
from keptpictures.hurts.survey import SummedSurvey
from keptpictures.knowledge.edited import edited
from keptpictures.knowledge.facts import known
from keptpictures.knowledge.knowledge import Knowledge
from keptpictures.pictures.picture import Picture
from keptpictures.pictures.recipe import apply_edits, recipe_of
from keptpictures.planning.cheapest import cheapest
from keptpictures.sheets.question import Question

READS_NAME = ("edit", "drop", "set", "keep", "mend", "ask", "show", "forget")
KINDS = {"edit": object, "show": object, "forget": object, "lay": Picture, "save": Picture, "both": Knowledge,
         "common": Knowledge, "ask": Knowledge}


def names_read(command):
    word = command[0]
    if word in READS_NAME:
        return command[1:2]
    return {"new": (), "lay": command[2:4], "join": command[2:4], "both": command[2:4],
            "common": command[2:4]}.get(word, command[2:3])


def show_by_hand(item):
    if isinstance(item, Picture):
        return tuple(" ".join(",".join(map(str, colour)) for colour in row) for row in item.rows)
    if isinstance(item, tuple):
        try:
            return tuple(SummedSurvey(salvage(item)).lines())
        except NoHead:
            return ("no head",)
    rows = []
    for z, modulus in enumerate(item.moduli):
        for y in range(item.height):
            steps = [item.answer(z, Question.cell(x, y))[1] for x in range(item.width)]
            rows.append("".join("#" if step == modulus else "?" if step == 1 else "+" for step in steps))
    return tuple(rows)


def new_by_hand(width, height, depths, mask):
    if not (1 <= width <= 40 and 1 <= height <= 40) or not all(1 <= depth <= 16 for depth in depths):
        raise BadPicture()
    return Picture.of(depths, [[(0,) * len(depths)] * width] * height, mask)


def edit_by_hand(item, edit):
    if isinstance(item, Picture):
        return apply_edits(item, [edit])
    if isinstance(item, tuple):
        return edit_file(item, [edit])
    depths = tuple(modulus.bit_length() - 1 for modulus in item.moduli)
    return edited(item, recipe_of((item.width, item.height, depths), edit))


def mend_by_hand(data):
    whole = data
    for start, end in pieces(data):
        if 4 <= end - start <= 129 and mended(data[start:end]) is not None:
            whole = whole[:start] + mended(data[start:end]) + whole[end:]
    return whole


def make_by_hand(command, items):
    """Return what a command makes of the items that it reads."""
    word, rest = command[0], command[2:]
    if word == "new":
        return new_by_hand(*rest)
    if word == "edit":
        return edit_by_hand(items[0], rest[0])
    if word in ("lay", "common"):
        return items[0] | items[1]
    if word == "both":
        return items[0] & items[1]
    if word == "save":
        _, order, letters, spares = rest
        if len(letters) > 6 or set(letters) - {"a", "d"} or spares not in (0, 1, 2, 3):
            raise BadPlan(-1)
        return write_file(items[0], cheapest(items[0], orders=(order,), words=(letters,), spares=spares))
    if word == "load":
        return read_file(items[0])
    if word == "drop":
        bounds = dict(enumerate(pieces(items[0])))
        if rest[0] not in bounds:
            raise NoPlace(rest[0])
        start, end = bounds[rest[0]]
        return items[0][:start] + items[0][end:]
    if word == "set":
        if rest[0] not in range(len(items[0])) or rest[1] not in range(256):
            raise NoPlace(rest[0])
        return items[0][:rest[0]] + rest[1:] + items[0][rest[0] + 1:]
    if word == "keep":
        if rest[0] not in range(len(items[0]) + 1):
            raise NoPlace(rest[0])
        return items[0][:rest[0]]
    if word == "mend":
        return mend_by_hand(items[0])
    if word == "join":
        if len(items[0] + items[1]) > 20000:
            raise TooLarge()
        return items[0] + items[1]
    remains = salvage(items[0])
    if remains.head.colours:
        raise Coloured()
    return known(remains)


def perform_by_hand(desk, command):
    """Return the items after a command, which stay as they are in the dict, and its outcome."""
    names = names_read(command)
    for name in names:
        if name not in desk:
            raise NoName(name)
    for name in names:
        if not isinstance(desk[name], KINDS.get(command[0], tuple)):
            raise WrongKind(name)
    items = [desk[name] for name in names]
    if command[0] == "show":
        return desk, show_by_hand(items[0])
    if command[0] == "ask":
        z, x, y = command[2:]
        if z not in range(len(items[0].moduli)):
            raise NoCell(x, y)
        return desk, items[0].answer(z, Question.cell(x, y))
    if command[0] == "forget":
        return {name: item for name, item in desk.items() if name != command[1]}, None
    return {**desk, command[1]: make_by_hand(command, items)}, None


class PlainDesk:
    """Keeps all the states that it ever had, and which of them can be gone back to."""

    def __init__(self):
        self.now, self.earlier, self.most = {}, [], 20

    def do(self, *commands):
        """Return the outcomes, or (place, error) of the command that is refused."""
        items, outcomes = self.now, []
        for place, command in enumerate(commands):
            try:
                items, outcome = perform_by_hand(items, command)
            except KeepError as error:
                return place, error
            outcomes.append(outcome)
        self.earlier = (self.earlier + [self.now])[-self.most:] if self.most else []
        self.now = items
        return outcomes

    def undo(self):
        """Tell whether there was a step to undo."""
        if not self.earlier:
            return False
        self.now = self.earlier.pop()
        return True

    def set_limit(self, most):
        self.most = most
        self.earlier = self.earlier[-most:] if most else []
