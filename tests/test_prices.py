"""Points 87 and 88: prices of stretches, and potentials."""

import time
import unittest
from itertools import product

from keptpictures.files.bodies import body_of
from keptpictures.files.plan import Plan, even_plan
from keptpictures.files.whole import chunks_of
from keptpictures.files.writer import write_file
from keptpictures.palettes.orders import palette_of
from keptpictures.planning.prices import potentials, stretch_price
from keptpictures.sheets.sheet import Sheet
from tests.helpers import are_plain_integers, chances, some_picture, some_sheet
from tests.planning_by_hand import Stretches


def some_smooth_sheet(chance, modulus, width, height):
    """Return a sheet in which many samples equal their neighbours."""
    rows = [[0] * width for _ in range(height)]
    for y, x in product(range(height), range(width)):
        near = [rows[y][x - 1] if x else 0, rows[y - 1][x] if y else 0]
        rows[y][x] = chance.choice(near) if chance.random() < 0.7 else chance.randrange(modulus)
    return Sheet(modulus, rows)


def some_body(chance):
    width, height = chance.randint(1, 12), chance.randint(1, 4)
    moduli = [chance.choice((1, 2, 3, 5, 16, 64, 1000, 65536)) for _ in range(chance.randint(1, 3))]
    make = chance.choice((some_sheet, some_smooth_sheet))
    return tuple(make(chance, modulus, width, height) for modulus in moduli)


class StretchPriceTest(unittest.TestCase):
    def test_by_hand(self):
        # Preset 0 for the modulus 4 codes 0 by one bit, 1 and 2 by three, 3 by two.
        body = (Sheet(4, [[0, 0, 0], [3, 3, 3]]),)
        self.assertEqual(stretch_price(body, "", 0, 1, 0), 8 + 1)
        # With the filter "left", 3 is folded to 1 and the others to 0: 3 + 3 + 1 + 1 bits.
        self.assertEqual(stretch_price(body, "", 1, 1, 0), 8 + 2)
        self.assertEqual(stretch_price(body, "", 0, 2, 0), 8 + 2)
        self.assertEqual(stretch_price(body=body, word="", first=0, count=2, preset=0, careful=True), 8 + 2)

    def test_as_the_document_says(self):
        chance = chances(1)
        for _ in range(25):
            body = some_body(chance)
            word = "".join(chance.choice("ad") for _ in range(chance.choice((0, 0, 1, 2, 6))))
            for careful in (False, True):
                stretches = Stretches(body, word, careful)
                for first, end in stretches.passes():
                    if first == end:
                        continue
                    for preset in stretches.presets:
                        lane = chance.randrange(first, end)
                        count = chance.randint(1, end - lane)
                        told = stretch_price(body, word, lane, count, preset, careful=careful)
                        self.assertEqual(told, stretches.price(lane, count, preset))

    def test_the_lengths_of_written_files(self):
        chance = chances(2)
        for number in range(40):
            depths = tuple(chance.randint(1, 6) for _ in range(chance.randint(1, 3)))
            picture = some_picture(chance, chance.randint(1, 9), chance.randint(1, 5), depths)
            palette = palette_of(picture, "often") if number % 3 == 2 else None
            body = body_of(picture, palette)
            colours = None if palette is None else palette.entries
            for careful in (False, True):
                stretches = Stretches(body, "a", careful)
                chunks, first = [], 0
                for start, end in stretches.passes():
                    while first < end:
                        count, preset = chance.randint(1, end - first), chance.choice(stretches.presets)
                        chunks.append((count, preset, stretches.least_filters(first, count, preset)))
                        first += count
                data = write_file(picture, Plan(colours, word="a", chunks=chunks))
                lengths = [len(content) + 4 for kind, content in chunks_of(data) if kind == 2]
                first, told = 0, []
                for count, preset, _ in chunks:
                    told.append(stretch_price(body, "a", first, count, preset, careful=careful))
                    first += count
                self.assertEqual(told, lengths)

    def test_100_lanes_and_all_presets(self):
        chance = chances(3)
        picture = some_picture(chance, 3, 40, (16, 3, 1))
        body = picture.planes
        for preset in (0, 1, 5, 16, 17, 32, 33):
            told = stretch_price(body, "", 20, 100, preset)
            self.assertGreater(told, 8)
            self.assertLessEqual(told, sum(stretch_price(body, "", 20 + k, 1, preset) - 8 for k in range(100)) + 8)

    def test_careful_stretches_do_without_the_filters_that_look_up(self):
        row = some_sheet(chances(8), 256, 20, 1).rows[0]
        body = (Sheet(256, [row, row]),)
        self.assertEqual(stretch_price(body, "", 1, 1, 1), 8 + (3 + 1 * 5 + 1 * 5 + 5 + 6) // 7)
        self.assertEqual(stretch_price(body, "", 1, 1, 1, careful=False), stretch_price(body, "", 1, 1, 1))
        self.assertGreater(stretch_price(body, "", 1, 1, 1, careful=True), 20)
        self.assertEqual(stretch_price(body, "", 0, 1, 16, careful=True), stretch_price(body, "", 0, 1, 16))

    def test_stretches_of_a_part_of_a_track(self):
        body = (Sheet(4, [[0, 3], [1, 2]]), Sheet(2, [[0, 1], [1, 0]]))
        for first, count in ((0, 1), (1, 1), (1, 2), (2, 1), (0, 3)):
            told = stretch_price(body, "", first, count, 2, careful=True)
            self.assertEqual(told, Stretches(body, "", True).price(first, count, 2))

    def test_arguments_stay_as_they_are(self):
        body = (Sheet(4, [[0, 3], [1, 2]]),)
        stretch_price(body, "a", 0, 1, 0)
        potentials(body, "a")
        self.assertEqual(body, (Sheet(4, [[0, 3], [1, 2]]),))
        potentials(body).clear()
        self.assertEqual(len(potentials(body)), 1)


class PotentialsTest(unittest.TestCase):
    def test_a_search_over_all_cuts_and_presets(self):
        chance = chances(4)
        for _ in range(30):
            width, height = chance.randint(1, 6), chance.randint(1, 3)
            moduli = [chance.choice((1, 2, 3, 4)) for _ in range(chance.randint(1, 2) if height < 2 else 1)]
            body = tuple(some_smooth_sheet(chance, modulus, width, height) for modulus in moduli)
            word = chance.choice(("", "a", "d", "ad"))
            for careful in (False, True):
                stretches = Stretches(body, word, careful)
                found = []
                for first, end in stretches.passes():
                    starts = range(first, end, len(body) if careful else 1)
                    prices = [min(stretches.cuts_price(start, cuts) for cuts in stretches.all_cuts(start, end, careful))
                              for start in starts]
                    found.append(tuple(prices) + (0,))
                told = potentials(body, word, careful=careful)
                self.assertEqual(told, found)
                self.assertIs(type(told), list)
                self.assertTrue(all(type(row) is tuple for row in told))
                self.assertTrue(are_plain_integers(told))

    def test_what_the_document_says_of_them(self):
        chance = chances(5)
        for careful in (False, True):
            picture = some_picture(chance, 5, 40, (2, 1, 3))
            stretches = Stretches(picture.planes, "d", careful)
            for (first, end), prices in zip(stretches.passes(), potentials(picture.planes, "d", careful=careful)):
                step = 3 if careful else 1
                values = dict(zip(range(first, end + 1, step), prices))
                self.assertEqual((len(values), prices[-1]), ((end - first) // step + 1, 0))
                for a in range(first, end, step):
                    ends = [a + 3] if careful else range(a + 1, min(end, a + 100) + 1)
                    reached = False
                    for b, preset in product(ends, stretches.presets):
                        bound = stretches.price(a, b - a, preset) + values[b]
                        self.assertLessEqual(values[a], bound)
                        reached = reached or values[a] == bound
                    self.assertTrue(reached)

    def test_presets_for_the_greatest_modulus(self):
        noise = some_sheet(chances(9), 65536, 40, 1)
        for body in ((noise, Sheet.even(2, 40, 1)), (Sheet.even(2, 40, 1), noise)):
            stretches = Stretches(body, "")
            apart = min(stretches.price(0, 1, preset) for preset in range(34)) + potentials(body)[0][1]
            together = min(stretches.price(0, 2, preset) for preset in range(34))
            self.assertEqual(potentials(body)[0][0], min(apart, together))
            self.assertLess(potentials(body)[0][0], min(stretches.price(0, 2, preset) for preset in range(4)))

    def test_passes_without_tracks(self):
        self.assertEqual(potentials((Sheet(2, [[1]]),), "ad"), [(9, 0), (0,), (0,)])
        self.assertEqual(potentials((Sheet(2, [[1]]),), "ad", careful=True), [(9, 0), (0,), (0,)])
        self.assertEqual(potentials(body=(Sheet(2, [[1], [1]]),), word="d", careful=False), [(9, 0), (9, 0)])

    def test_without_a_word(self):
        body = (Sheet(2, [[1, 0]]),)
        self.assertEqual(potentials(body), potentials(body, ""))

    def test_chunks_of_at_most_100_lanes(self):
        # 4 sheets with 40 rows: 160 lanes without any bits but for their filters.
        body = (Sheet.even(1, 1, 40),) * 4
        prices = potentials(body)[0]
        self.assertEqual(len(prices), 161)
        for left in (1, 2, 99, 100):
            self.assertEqual(prices[160 - left], 8 + (3 * left + 6) // 7)
        self.assertEqual(prices[160 - 101], 8 + 1 + 8 + (300 + 6) // 7)
        self.assertEqual(prices[0], min(16 + (3 * k + 6) // 7 + (3 * (160 - k) + 6) // 7 for k in range(60, 101)))

    def test_the_first_potential_is_reached_by_a_file(self):
        chance = chances(6)
        for _ in range(10):
            picture = some_picture(chance, chance.randint(1, 20), chance.randint(1, 20), (4, 2))
            told = sum(prices[0] for prices in potentials(picture.planes, "da"))
            for code, kind in product((0, 3, 6, 9), (0, 1, 2, 4)):
                data = write_file(picture, even_plan(picture, word="da", code=code, kind=kind))
                lengths = [len(content) + 4 for number, content in chunks_of(data) if number == 2]
                self.assertLessEqual(told, sum(lengths))

    def test_the_bounds_are_answered_soon(self):
        chance = chances(7)
        picture = some_picture(chance, 40, 40, (16,) * 4)
        for word in ("", "adadad"):
            for careful in (False, True):
                begun = time.perf_counter()
                told = potentials(picture.planes, word, careful=careful)
                self.assertLess(time.perf_counter() - begun, 20)
                self.assertEqual(len(told), len(word) + 1)
                self.assertTrue(all(earlier > later for prices in told for earlier, later in zip(prices, prices[1:])))


if __name__ == "__main__":
    unittest.main()
