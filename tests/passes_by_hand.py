"""Passes, cell by cell as the document defines them, to compare the program with."""

from itertools import product

WORDS = ["".join(letters) for many in range(7) for letters in product("ad", repeat=many)]
SIZES = ((1, 1), (1, 40), (40, 1), (40, 40), (3, 2), (5, 7), (17, 9))


def steps_by_hand(word, number):
    """Return the steps of a grid, doubled for each letter that is still to come."""
    across = down = 1
    for letter in word[number:]:
        if letter == "a":
            across *= 2
        else:
            down *= 2
    return across, down


def pass_by_hand(x, y, word):
    """Return the number of the first grid that has the cell as a point."""
    for number in range(len(word) + 1):
        across, down = steps_by_hand(word, number)
        if x % across == 0 and y % down == 0:
            return number
    raise AssertionError("the last grid has every cell")


def tracks_by_hand(width, height, word):
    """Return the list of (pass, row, columns), by pass and then by row."""
    cells = {}
    for y in range(height):
        for x in range(width):
            cells.setdefault((pass_by_hand(x, y, word), y), []).append(x)
    return [(number, y, cells[number, y]) for number, y in sorted(cells)]
