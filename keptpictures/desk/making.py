"""Making: the items that commands put on a desk."""

from keptpictures.chunks.mending import mended
from keptpictures.chunks.pieces import pieces
from keptpictures.desk.items import kind_of
from keptpictures.editing.files import edit_file
from keptpictures.errors import BadPicture, BadPlan, Coloured, NoPlace, TooLarge
from keptpictures.files.head import can_be_depths, can_be_size
from keptpictures.files.whole import read_file
from keptpictures.files.writer import write_file
from keptpictures.hurts.remains import salvage
from keptpictures.knowledge.edited import edited
from keptpictures.knowledge.facts import known
from keptpictures.passes.tracks import is_word
from keptpictures.pictures.picture import Picture, depth_of
from keptpictures.pictures.recipe import apply_edits, recipe_of
from keptpictures.planning.cheapest import cheapest
from keptpictures.sheets.sheet import Sheet

MOST_BYTES = 20000


def made_new(items, command):
    """Return the picture with all samples 0."""
    _, _, width, height, depths, mask = command
    if not (can_be_size(width, height) and can_be_depths(depths, mask)):
        raise BadPicture()
    return Picture([Sheet.even(1 << depth, width, height) for depth in depths], mask)


def made_edit(items, command):
    """Return the item after the edit."""
    item = items[0]
    edit = command[2]
    if kind_of(item) == "picture":
        return apply_edits(item, [edit])
    if kind_of(item) == "file":
        return edit_file(item, [edit])
    depths = tuple([depth_of(modulus) for modulus in item.moduli])
    return edited(item, recipe_of((item.width, item.height, depths), edit))


def made_lay(items, command):
    """Return the first picture over the second one."""
    top, bottom = items
    return top | bottom


def made_save(items, command):
    """Return the file of the picture with the cheapest plan."""
    picture = items[0]
    _, _, _, order, word, spares = command
    if not (is_word(word) and 0 <= spares <= 3):
        raise BadPlan(-1)
    return write_file(picture, cheapest(picture, orders=(order,), words=(word,), spares=spares))


def made_load(items, command):
    """Return the picture of the file."""
    return read_file(items[0])


def made_drop(items, command):
    """Return the file without one piece."""
    data = items[0]
    number = command[2]
    bounds = pieces(data)
    if not 0 <= number < len(bounds):
        raise NoPlace(number)
    start, end = bounds[number]
    return data[:start] + data[end:]


def made_set(items, command):
    """Return the file with another byte at one place."""
    data = items[0]
    _, _, at, byte = command
    if not (0 <= at < len(data) and 0 <= byte <= 255):
        raise NoPlace(at)
    return data[:at] + (byte,) + data[at + 1:]


def made_keep(items, command):
    """Return the first bytes of the file."""
    data = items[0]
    number = command[2]
    if not 0 <= number <= len(data):
        raise NoPlace(number)
    return data[:number]


def made_mend(items, command):
    """Return the file with each piece mended that can be."""
    data = items[0]
    bounds = pieces(data)
    whole = list(data)
    for start, end in bounds:
        if 4 <= end - start <= 129:
            piece = mended(data[start:end])
            whole[start:end] = data[start:end] if piece is None else piece
    return tuple(whole)


def made_join(items, command):
    """Return the two files, one behind the other."""
    front, behind = items
    if len(front) + len(behind) > MOST_BYTES:
        raise TooLarge()
    return front + behind


def made_know(items, command):
    """Return what the remains of the file tell."""
    remains = salvage(items[0])
    if remains.head.colours > 0:
        raise Coloured()
    return known(remains)


def made_both(items, command):
    """Return the knowledge of two together."""
    one, other = items
    return one & other


def made_common(items, command):
    """Return the knowledge that two have in common."""
    one, other = items
    return one | other


MAKERS = {
    "new": made_new,
    "edit": made_edit,
    "lay": made_lay,
    "save": made_save,
    "load": made_load,
    "drop": made_drop,
    "set": made_set,
    "keep": made_keep,
    "mend": made_mend,
    "join": made_join,
    "know": made_know,
    "both": made_both,
    "common": made_common,
}


def made(items, command):
    """Return the item that the command makes of the items that it reads."""
    maker = MAKERS[command[0]]
    return maker(items, command)
