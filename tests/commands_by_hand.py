"""Commands of all kinds, for the tests of the desk."""

from tests.helpers import some_colour

NAMES = ("a", "b", "c", "dd", "eeee", "zzzzzzzz")
ORDERS = ("none", "value", "first", "often")
SAMPLES = (("new", "a", 2, 1, (1,), False), ("edit", "a", ("mirror",)), ("lay", "a", "b", "c"),
           ("save", "a", "b", "none", "", 0), ("load", "a", "b"), ("drop", "a", 0), ("set", "a", 0, 0),
           ("keep", "a", 0), ("mend", "a"), ("join", "a", "b", "c"), ("know", "a", "b"), ("both", "a", "b", "c"),
           ("common", "a", "b", "c"), ("ask", "a", 0, 0, 0), ("show", "a"), ("forget", "a"))


def some_number(chance):
    return chance.choice((0, 1, -1, 9, 10, -10, 99999, 100000, -100000, chance.randint(-100000, 100000)))


def some_name(chance):
    return "".join(chance.choice("abcxyz") for _ in range(chance.randint(1, 8)))


def some_numbers(chance):
    return tuple(some_number(chance) for _ in range(chance.randint(0, 6)))


def any_edit(chance):
    """Return an edit with any numbers within the bounds."""
    word = chance.choice(("paint", "shift", "mirror", "flip", "turn", "cut"))
    if word == "paint":
        return (word, *[some_number(chance) for _ in range(4)], some_numbers(chance))
    if word == "shift":
        return (word, some_number(chance), chance.choice((0, 65535, -65535, chance.randint(-65535, 65535))))
    return (word, *[some_number(chance) for _ in range(4)]) if word == "cut" else (word,)


def any_command(chance):
    """Return a command with any items within the bounds."""
    word, name = chance.choice(SAMPLES)[0], some_name(chance)
    if word == "new":
        return (word, name, some_number(chance), some_number(chance), some_numbers(chance), chance.random() < 0.5)
    if word == "edit":
        return (word, name, any_edit(chance))
    if word in ("lay", "join", "both", "common"):
        return (word, name, some_name(chance), some_name(chance))
    if word == "save":
        letters = "".join(chance.choice("adz") for _ in range(chance.randint(0, 10)))
        return (word, name, some_name(chance), chance.choice(ORDERS), letters, some_number(chance))
    if word in ("load", "know"):
        return (word, name, some_name(chance))
    many = {"drop": 1, "set": 2, "keep": 1, "mend": 0, "ask": 3, "show": 0, "forget": 0}[word]
    return (word, name, *[some_number(chance) for _ in range(many)])


def likely_command(chance, names=("a", "b", "c", "d")):
    """Return a command that is often possible on a desk with small items under these names."""
    word, name, one, other = chance.choice(SAMPLES)[0], *[chance.choice(names) for _ in range(3)]
    if word == "new":
        depths = chance.choice(((1,), (2, 1), (2, 1), (2,)))
        return (word, name, chance.randint(0, 4), chance.randint(1, 4), depths, len(depths) > 1)
    if word == "edit":
        x, y, width, height = [chance.randint(0, 2) for _ in range(4)]
        edits = (("paint", x, y, width, height, some_colour(chance, chance.choice(((1,), (2, 1))))), ("mirror",),
                 ("flip",), ("turn",), ("cut", x, y, width + 1, height + 1), ("shift", chance.randint(0, 1), 3))
        return (word, name, chance.choice(edits))
    if word in ("lay", "join", "both", "common"):
        return (word, name, one, other)
    if word == "save":
        return (word, name, one, chance.choice(ORDERS), chance.choice(("", "a", "ad", "x")), chance.randint(0, 4))
    if word in ("load", "know"):
        return (word, name, one)
    many = {"drop": 1, "set": 2, "keep": 1, "mend": 0, "ask": 3, "show": 0, "forget": 0}[word]
    top = {"set": 140, "keep": 60, "drop": 5, "ask": 2}.get(word, 0)
    return (word, name, *[chance.randint(0, top) for _ in range(many)])
