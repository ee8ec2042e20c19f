"""The errors of the program, in two levels."""


class KeepError(ValueError):
    """What all errors of the program have in common."""


class Unlike(KeepError):
    """Two things are not alike enough to be used together."""


class BadPicture(KeepError):
    """Planes or rows of colours do not make a picture."""


class BadTable(KeepError):
    """Rungs and a repeat do not make a table."""


class BadHead(KeepError):
    """The parts do not make a head."""


class NotWhole(KeepError):
    """What is asked for has not been received yet."""


class NoHead(KeepError):
    """A byte text has no head chunk."""


class TooLarge(KeepError):
    """There is more than the program takes."""


class Coloured(KeepError):
    """A file has a palette where only plain files will do."""


class NoStep(KeepError):
    """There is no step to undo."""


class NoCell(KeepError):
    """There is no cell at this place."""

    def __init__(self, x, y):
        self.x = x
        self.y = y


class BadEdit(KeepError):
    """The edit at this place does not fit."""

    def __init__(self, place):
        self.place = place


class BadPalette(KeepError):
    """The colour at this place cannot stand in the palette."""

    def __init__(self, place):
        self.place = place


class NoEntry(KeepError):
    """A palette has no entry with this number."""

    def __init__(self, place):
        self.place = place


class NoColour(KeepError):
    """A palette does not have this colour."""

    def __init__(self, colour):
        self.colour = colour


class TooMany(KeepError):
    """There are more colours than a palette holds."""

    def __init__(self, number):
        self.number = number


class NoRung(KeepError):
    """A table does not cover this number."""

    def __init__(self, number):
        self.number = number


class BadBits(KeepError):
    """No coded lane begins with these bits."""

    def __init__(self, at):
        self.at = at


class BadContent(KeepError):
    """A content does not have its form."""

    def __init__(self, at):
        self.at = at


class BadPlan(KeepError):
    """The part of a plan at this place does not fit."""

    def __init__(self, place):
        self.place = place


class BadFile(KeepError):
    """No file begins with these bytes."""

    def __init__(self, at, chunk):
        self.at = at
        self.chunk = chunk


class Clash(KeepError):
    """The facts about a sheet contradict each other."""

    def __init__(self, sheet, factors):
        self.sheet = sheet
        self.factors = factors


class BadCommand(KeepError):
    """This line is not a command."""

    def __init__(self, line):
        self.line = line


class NoName(KeepError):
    """No item has this name."""

    def __init__(self, name):
        self.name = name


class WrongKind(KeepError):
    """The item with this name is of the wrong kind."""

    def __init__(self, name):
        self.name = name


class NoPlace(KeepError):
    """There is no such place in a file."""

    def __init__(self, place):
        self.place = place


class Stopped(KeepError):
    """The command at this place was refused."""

    def __init__(self, place):
        self.place = place


class BadLimit(KeepError):
    """This number of steps is no limit."""

    def __init__(self, number):
        self.number = number


class BadField(KeepError):
    """A report has no field with this name."""

    def __init__(self, name):
        self.name = name
