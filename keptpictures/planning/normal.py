"""Normal forms: one file for each picture."""

from keptpictures.files.whole import read_file
from keptpictures.files.writer import write_file
from keptpictures.planning.cheapest import cheapest


def normal_file(data):
    """Return the file with the picture of a file and its cheapest plan of one pass."""
    picture = read_file(data)
    return write_file(picture, cheapest(picture))


def same_picture(one, other):
    """Tell whether two files have the same picture."""
    picture = read_file(one)
    return picture == read_file(other)
