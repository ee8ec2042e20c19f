"""Playing: texts of commands, done on a desk line by line."""

from keptpictures.desk.wording import read_command
from keptpictures.errors import BadCommand, Stopped


def play(desk, text):
    """Do the commands of the text, each as its own step, and return an entry for each."""
    entries = []
    for command in read_lines(text):
        try:
            outcomes = desk.do(command)
            entries.append(("done", outcomes[0]))
        except Stopped:
            entries.append(("refused",))
    return entries


def read_lines(text):
    """Return the commands of all lines of the text."""
    lines = text.split("\n") if text else []
    commands = []
    for number, line in enumerate(lines):
        try:
            commands.append(read_command(line))
        except BadCommand:
            raise BadCommand(number) from None
    return commands
