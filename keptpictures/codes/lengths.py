"""Lengths: short codewords for what is frequent."""

from keptpictures.codes.table import Table, rung_starts
from keptpictures.errors import NoRung


def least_lengths(counts):
    """Return the lengths with which codewords that are used so often have the fewest bits in all."""
    lengths = [0] * len(counts)
    groups = [(count, place, [place]) for place, count in enumerate(counts)]
    while len(groups) > 1:
        # No two groups have the same rank, so their lists of places are never compared.
        groups = sorted(groups)
        (weight, rank, places), (other_weight, other_rank, other_places) = groups[:2]
        joined = places + other_places
        for place in joined:
            lengths[place] += 1
        groups = groups[2:] + [(weight + other_weight, min(rank, other_rank), joined)]
    return tuple(lengths)


def least_table(widths, numbers):
    """Return the table of rungs with these widths that suits the numbers best."""
    starts = rung_starts([(0, width) for width in widths])
    total = starts[-1] + (1 << widths[-1])
    counts = [0] * len(widths)
    for number in numbers:
        if number >= total:
            raise NoRung(number)
        counts[len([start for start in starts if start <= number]) - 1] += 1
    return Table(list(zip(least_lengths(counts), widths)))
