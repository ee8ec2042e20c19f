"""Tracks: the cells of one row that are sent in one pass."""


def is_word(word):
    """Tell whether a string is a pass word."""
    return len(word) <= 6 and all([letter in "ad" for letter in word])


def letter_of(word, number):
    """Return the letter of the pass with this number, which is empty for pass 0."""
    return word[number - 1] if number > 0 else ""


def grid_steps(word, number):
    """Return the steps (A, D) of the grid of the pass with this number."""
    rest = word[number:]
    return (1 << rest.count("a"), 1 << rest.count("d"))


def pass_of(x, y, word):
    """Return the number of the first pass whose grid has the cell (x, y) as a point."""
    number = 0
    # The grid of the last pass has the steps (1, 1), so it has every cell.
    while not is_point(x, y, grid_steps(word, number)):
        number += 1
    return number


def is_point(x, y, steps):
    """Tell whether the cell (x, y) is a point of the grid with these steps."""
    across, down = steps
    return x % across == 0 and y % down == 0


def track_places(word, number):
    """Return the first row of a pass and the step to the next one, and the same for the columns in a row."""
    across, down = grid_steps(word, number)
    letter = letter_of(word, number)
    if letter == "a":
        return (0, down, across, 2 * across)
    if letter == "d":
        return (down, 2 * down, 0, across)
    return (0, down, 0, across)


def tracks(width, height, word=""):
    """Yield the tracks (pass, y, first, step, count) by pass and then by row."""
    for number in range(len(word) + 1):
        top, down, first, step = track_places(word, number)
        count = len(range(first, width, step))
        if count > 0:
            for y in range(top, height, down):
                yield (number, y, first, step, count)


def pass_bounds(width, height, word, sheets=1):
    """Return the pairs (first lane, end) of the passes."""
    counts = [0] * (len(word) + 1)
    for track in tracks(width, height, word):
        counts[track[0]] += sheets
    bounds = []
    first = 0
    for count in counts:
        bounds.append((first, first + count))
        first += count
    return bounds
