"""Lanes: the numbers that stand for the samples of a track."""

from keptpictures.filters.folds import fold, unfold
from keptpictures.filters.prediction import near_cells, weighted_sum
from keptpictures.passes.tracks import tracks
from keptpictures.sheets.sheet import Sheet


def lane_numbers(sheet, track, number, word):
    """Return the folded residuals of the track with the filter."""
    own, y, first, step, count = track
    near = near_cells(number, word, own)
    numbers = []
    for place in range(count):
        x = first + place * step
        residual = (sheet.rows[y][x] - weighted_sum(sheet.rows, x, y, near)) % sheet.modulus
        numbers.append(fold(residual, sheet.modulus))
    return tuple(numbers)


def sheet_numbers(sheet, word, filters):
    """Return the numbers of all tracks, with a filter for each."""
    listed = list(tracks(sheet.width, sheet.height, word))
    return [lane_numbers(sheet, track, number, word) for track, number in zip(listed, filters)]


def sheet_of_numbers(modulus, width, height, word, filters, numbers):
    """Return the sheet whose tracks have these numbers with these filters."""
    rows = [[0] * width for _ in range(height)]
    listed = list(tracks(width, height, word))
    for track, number, lane in zip(listed, filters, numbers):
        near = near_cells(number, word, track[0])
        fill_track(rows, track, near, lane, modulus)
    return Sheet(modulus, rows)


def fill_track(rows, track, near, lane, modulus):
    """Write the samples of a track into rows that have all samples sent earlier."""
    _, y, first, step, _ = track
    for place, number in enumerate(lane):
        x = first + place * step
        rows[y][x] = (weighted_sum(rows, x, y, near) + unfold(number, modulus)) % modulus
