"""Items: what lies on a desk, and which items a command reads."""

from keptpictures.errors import NoName, WrongKind
from keptpictures.knowledge.knowledge import Knowledge
from keptpictures.pictures.picture import Picture

# The kind of the items that a command reads, and the places of their names in the command.
READ = {
    "new": ("any",),
    "edit": ("any", 1),
    "lay": ("picture", 2, 3),
    "save": ("picture", 2),
    "load": ("file", 2),
    "drop": ("file", 1),
    "set": ("file", 1),
    "keep": ("file", 1),
    "mend": ("file", 1),
    "join": ("file", 2, 3),
    "know": ("file", 2),
    "both": ("knowledge", 2, 3),
    "common": ("knowledge", 2, 3),
    "ask": ("knowledge", 1),
    "show": ("any", 1),
    "forget": ("any", 1),
}


def kind_of(item):
    """Return the word for the kind of an item."""
    if isinstance(item, Picture):
        return "picture"
    if isinstance(item, Knowledge):
        return "knowledge"
    return "file"


def items_read(items, command):
    """Return the items that the command reads, in the order of their names."""
    kind, *places = READ[command[0]]
    names = [command[place] for place in places]
    for name in names:
        if name not in items:
            raise NoName(name)
    for name in names:
        if kind != "any" and kind_of(items[name]) != kind:
            raise WrongKind(name)
    return [items[name] for name in names]
