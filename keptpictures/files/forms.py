"""Forms: contents that are taken number by number, as long as some whole content begins so."""

from keptpictures.errors import BadContent


class Form:
    """What is taken of a content: single numbers, and behind them, where the form has any, packed bits."""

    def __init__(self):
        self._front = []
        self._packed = None

    def choices(self):
        """Return the numbers that can come next, ascending, and none if only packed bits can follow."""
        return []

    def packed_part(self):
        """Return what takes the packed bits behind the single numbers, or None."""
        return None

    def is_whole(self):
        """Tell whether the content is whole."""
        if self._packed is not None:
            return self._packed.is_whole()
        return not self.choices()

    def take(self, number):
        """Take the number, or return False if no content goes on with it."""
        if self._packed is not None:
            return self._packed.take(number)
        if number not in self.choices():
            return False
        self._front.append(number)
        if not self.choices():
            self._packed = self.packed_part()
        return True

    def least(self):
        """Return the least number with which a content that is not whole goes on."""
        if self._packed is not None:
            return self._packed.least()
        return self.choices()[0]


def take_content(form, content):
    """Have the form take a content that must be whole."""
    for at, number in enumerate(content):
        if not form.take(number):
            raise BadContent(at)
    if not form.is_whole():
        raise BadContent(len(content))
