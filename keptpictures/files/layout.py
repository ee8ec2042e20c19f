"""Layouts: the lanes of all files with one head."""

from keptpictures.passes.tracks import pass_bounds, tracks


class Layout:
    """The tracks, lanes and passes that a head leaves no choice about."""

    def __init__(self, head):
        self.head = head
        self.moduli = head.moduli
        self.greatest = max(head.moduli)
        self.listed = list(tracks(head.width, head.height, head.word))
        self.bounds = pass_bounds(head.width, head.height, head.word, len(head.moduli))
        self.many = len(self.listed) * len(self.moduli)

    def track_of(self, lane):
        """Return the track of the lane with this number."""
        return self.listed[lane // len(self.moduli)]

    def sheet_of(self, lane):
        """Return the number of the sheet of the lane."""
        return lane % len(self.moduli)

    def pass_end(self, lane):
        """Return the number of the first lane behind the pass of this lane."""
        return self.bounds[self.track_of(lane)[0]][1]

    def passes_with_tracks(self):
        """Return the numbers of the passes that have tracks."""
        return [number for number, (first, end) in enumerate(self.bounds) if first < end]

    def spare_fields(self, number):
        """Return the (count, modulus) of each row of the spare chunk of the pass."""
        first, _ = self.bounds[number]
        count = self.track_of(first)[4]
        return [(count, modulus) for _ in range(self.head.spares) for modulus in self.moduli]
