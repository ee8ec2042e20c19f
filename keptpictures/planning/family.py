"""Families: the lanes of a body, and what they cost in the ways in which a family of plans may write them."""

from keptpictures.files.coding import last_preset
from keptpictures.files.contents import FILTER_PLACES, MOST_LANES
from keptpictures.filters.lanes import lane_numbers
from keptpictures.filters.prediction import FILTERS
from keptpictures.passes.tracks import pass_bounds, tracks
from keptpictures.planning.ladders import Ladders

# The filters with which each track depends on itself alone: none, left and slope.
CAREFUL_FILTERS = (0, 1, 6)


class Family:
    """A body and a pass word, with the filters and the presets among which the lanes choose.

    The lanes are taken in units: one by one, or in a careful family all lanes of a track.
    """

    def __init__(self, body, word, careful, presets):
        first = body[0]
        self._body = body
        self._word = word
        self._listed = list(tracks(first.width, first.height, word))
        self._filters = list(CAREFUL_FILTERS) if careful else list(range(len(FILTERS)))
        self._ladders = [Ladders(sheet.modulus, presets) for sheet in body]
        self.bounds = pass_bounds(first.width, first.height, word, len(body))
        self.unit = len(body) if careful else 1
        self.most = 1 if careful else MOST_LANES

    def lane_bits(self, lane):
        """Return the fewest bits of the lane with its filter, for each preset."""
        rows = self._filter_bits(lane)
        return [min(column) for column in zip(*rows)]

    def unit_bits(self, first, end):
        """Return the bits of each unit of a pass with the lanes from first to end - 1, for each preset."""
        units = []
        for lane in range(first, end, self.unit):
            rows = [self.lane_bits(lane + at) for at in range(self.unit)]
            units.append([sum(column) for column in zip(*rows)])
        return units

    def least_filter(self, lane, place):
        """Return the least of the filters with which the lane has the fewest bits with the preset at this place."""
        bits = [row[place] for row in self._filter_bits(lane)]
        return self._filters[bits.index(min(bits))]

    def _filter_bits(self, lane):
        """Return the bits of the lane for each filter, and there for each preset."""
        z = lane % len(self._body)
        track = self._listed[lane // len(self._body)]
        rows = [lane_numbers(self._body[z], track, number, self._word) for number in self._filters]
        return [[FILTER_PLACES + bits for bits in self._ladders[z].row_bits(row)] for row in rows]


def whole_family(body, word, careful):
    """Return the family with all presets that a file with the body may use."""
    greatest = max([sheet.modulus for sheet in body])
    return Family(body, word, careful, list(range(last_preset(greatest) + 1)))
