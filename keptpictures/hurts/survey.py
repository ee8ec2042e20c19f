"""Surveys: reports of remains as text."""

from keptpictures.chunks.sums import KINDS

STATES = ("kept", "mended", "idle", "lost")


class Survey:
    """One line for each row of the report."""

    def __init__(self, remains):
        self._remains = remains

    def lines(self):
        """Return the lines."""
        return [report_line(row) for row in self._remains.report]


class CountedSurvey(Survey):
    """A survey with a running number in front of each line."""

    def lines(self):
        """Return the lines."""
        plain = super().lines()
        return [f"{number:>4}: {line}" for number, line in enumerate(plain, start=1)]


class SummedSurvey(CountedSurvey):
    """A counted survey with a last line that tells how many rows have each state."""

    def lines(self):
        """Return the lines."""
        counted = super().lines()
        return counted + [total_line(self._remains.report)]


def report_line(row):
    """Return the columns of one row of a report."""
    start, end, kind, state = row
    word = "none" if kind == -1 else KINDS[kind]
    return f"{start:>6} {end:>6} {word:<8}{state}"


def total_line(report):
    """Return how many rows there are, and how many have each state."""
    states = [row[3] for row in report]
    counts = [f"{state} {states.count(state)}" for state in STATES]
    return ", ".join([f"total {len(report)}", *counts])
