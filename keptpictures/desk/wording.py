"""Wording: commands as lines of text."""

from keptpictures.errors import BadCommand

# What stands behind the word of each command; "edit" goes on as its edit does.
COMMANDS = {
    "new": ("name", "number", "number", "numbers", "mask"),
    "lay": ("name", "name", "name"),
    "save": ("name", "name", "order", "word", "number"),
    "load": ("name", "name"),
    "drop": ("name", "number"),
    "set": ("name", "number", "number"),
    "keep": ("name", "number"),
    "mend": ("name",),
    "join": ("name", "name", "name"),
    "know": ("name", "name"),
    "both": ("name", "name", "name"),
    "common": ("name", "name", "name"),
    "ask": ("name", "number", "number", "number"),
    "show": ("name",),
    "forget": ("name",),
}

# What stands behind the word of each edit.
EDITS = {
    "paint": ("number", "number", "number", "number", "numbers"),
    "shift": ("number", "amount"),
    "mirror": (),
    "flip": (),
    "turn": (),
    "cut": ("number", "number", "number", "number"),
}

ORDERS = ("none", "value", "first", "often")
LETTERS = "abcdefghijklmnopqrstuvwxyz"
DIGITS = "0123456789"
GREATEST = 100000
GREATEST_AMOUNT = 65535
NOTHING = "-"


def write_command(command):
    """Return the written form of the command."""
    word, *items = command
    if word == "edit":
        name, (edit_word, *more) = items
        return " ".join([word, name, edit_word] + written_items(EDITS[edit_word], more))
    return " ".join([word] + written_items(COMMANDS[word], items))


def written_items(kinds, items):
    """Return the written forms of items of these kinds."""
    return [written_item(kind, item) for kind, item in zip(kinds, items)]


def written_item(kind, item):
    """Return the written form of an item of this kind."""
    if kind == "number" or kind == "amount":
        return str(item)
    if kind == "numbers":
        return ",".join([str(number) for number in item]) if item else NOTHING
    if kind == "mask":
        return "mask" if item else "open"
    return item if item else NOTHING


def read_command(line):
    """Return the command of which the line is the written form."""
    word, *texts = line.split(" ")
    if word != "edit":
        return (word,) + read_items(COMMANDS.get(word), texts)
    require(len(texts) >= 2)
    name, edit_word, *more = texts
    edit = (edit_word,) + read_items(EDITS.get(edit_word), more)
    return (word, read_name(name), edit)


def read_items(kinds, texts):
    """Return the items of these kinds with these written forms; there are no kinds behind a word that is none."""
    require(kinds is not None and len(kinds) == len(texts))
    return tuple([read_item(kind, text) for kind, text in zip(kinds, texts)])


def require(is_right):
    """Raise BadCommand unless what was read is right."""
    if not is_right:
        raise BadCommand(0)


def read_name(text):
    """Return the name with this written form."""
    require(1 <= len(text) <= 8 and are_letters(text))
    return text


def read_number(text):
    """Return the number with this written form."""
    return number_up_to(GREATEST, text)


def read_amount(text):
    """Return the amount of a shift with this written form."""
    return number_up_to(GREATEST_AMOUNT, text)


def read_numbers(text):
    """Return the tuple of numbers with this written form."""
    parts = [] if text == NOTHING else text.split(",")
    require(len(parts) <= 6)
    return tuple([read_number(part) for part in parts])


def read_mask(text):
    """Return whether there is a mask, of which this is the written form."""
    require(text in ("mask", "open"))
    return text == "mask"


def read_order(text):
    """Return the order with this written form."""
    require(text in ORDERS)
    return text


def read_word(text):
    """Return the word with this written form."""
    word = "" if text == NOTHING else text
    require(text != "" and len(word) <= 10 and are_letters(word))
    return word


READERS = {
    "name": read_name,
    "number": read_number,
    "amount": read_amount,
    "numbers": read_numbers,
    "mask": read_mask,
    "order": read_order,
    "word": read_word,
}


def read_item(kind, text):
    """Return the item of this kind with this written form."""
    reader = READERS[kind]
    return reader(text)


def are_letters(text):
    """Tell whether the text has small letters alone."""
    return all([letter in LETTERS for letter in text])


def number_up_to(greatest, text):
    """Return the number with this written form, from the negative of the greatest one to the greatest one."""
    digits = text[1:] if text.startswith("-") else text
    require(digits != "" and all([digit in DIGITS for digit in digits]))
    # There is one written form for each number: no zero in front, and no sign in front of zero.
    require(text == "0" or not digits.startswith("0"))
    number = int(text)
    require(-greatest <= number <= greatest)
    return number
