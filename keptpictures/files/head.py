"""Heads: what is said of a picture and its file in front of everything else."""

from keptpictures.errors import BadHead
from keptpictures.files.forms import Form, take_content
from keptpictures.passes.tracks import is_word

LETTERS = "ad"


class Head:
    """The size, the depths and the layout of a file, which never change."""

    def __init__(self, width, height, depths, mask=False, *, colours=0, word="", spares=0):
        if not (can_be_size(width, height) and can_be_depths(depths, mask)):
            raise BadHead()
        if not (0 <= colours <= most_colours(depths) and is_word(word) and 0 <= spares <= 3):
            raise BadHead()
        self.width = width
        self.height = height
        self.depths = tuple(depths)
        self.mask = mask
        self.colours = colours
        self.word = word
        self.spares = spares
        self.moduli = (colours,) if colours > 0 else tuple([1 << depth for depth in depths])

    def __eq__(self, other):
        return (isinstance(other, Head)
                and self.width == other.width and self.height == other.height
                and self.depths == other.depths and self.mask == other.mask
                and self.colours == other.colours and self.word == other.word
                and self.spares == other.spares)

    def content(self):
        """Return the content of the head chunk."""
        letters = [LETTERS.index(letter) for letter in self.word]
        mask = 1 if self.mask else 0
        front = (self.width, self.height, len(self.depths), mask) + self.depths
        return (*front, self.colours, len(self.word), *letters, self.spares)

    @staticmethod
    def of(content):
        """Return the head that has this content."""
        form = HeadForm()
        take_content(form, content)
        return form.told()


class HeadForm(Form):
    """The content of a head chunk, number by number."""

    def choices(self):
        """Return the numbers that can come next."""
        place = len(self._front)
        if place < 2:
            return list(range(1, 41))
        if place == 2:
            return [1, 2, 3, 4]
        if place == 3:
            return [0] if self._front[2] == 1 else [0, 1]
        depths_end = 4 + self._front[2]
        if place < depths_end:
            is_mask = self._front[3] == 1 and place == depths_end - 1
            return [1] if is_mask else list(range(1, 17))
        if place == depths_end:
            return list(range(most_colours(self._front[4:]) + 1))
        return layout_choices(self._front[depths_end + 1:])

    def told(self):
        """Return the head that has the content, which is whole."""
        width, height, many, mask = self._front[:4]
        colours, _, *letters, spares = self._front[4 + many:]
        word = "".join([LETTERS[letter] for letter in letters])
        return Head(width, height, self._front[4:4 + many], mask == 1, colours=colours, word=word, spares=spares)


def layout_choices(numbers):
    """Return what can follow these numbers of a head, which stand behind the number of colours."""
    if not numbers:
        return list(range(7))
    letters = len(numbers) - 1
    if letters < numbers[0]:
        return [0, 1]
    return [0, 1, 2, 3] if letters == numbers[0] else []


def can_be_size(width, height):
    """Tell whether a picture can have this width and height."""
    return 1 <= width <= 40 and 1 <= height <= 40


def can_be_depths(depths, mask):
    """Tell whether a picture with or without a mask can have these depths."""
    if not 1 <= len(depths) <= 4 or not all([1 <= depth <= 16 for depth in depths]):
        return False
    return not mask or (len(depths) >= 2 and depths[-1] == 1)


def most_colours(depths):
    """Return how many colours a palette with these depths can have."""
    return min(64, 1 << sum(depths))
