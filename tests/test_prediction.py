"""Points 29 and 30: filters, their neighbours and their predictions."""

import unittest

from keptpictures.errors import NoCell
from keptpictures.filters.prediction import FILTERS, neighbours, predicted
from keptpictures.passes.tracks import grid_steps, pass_of
from keptpictures.sheets.sheet import Sheet
from tests.filters_by_hand import places_by_hand, prediction_by_hand
from tests.helpers import are_plain_integers, chances, some_sheet
from tests.passes_by_hand import SIZES, WORDS, pass_by_hand, steps_by_hand

LETTERS = ("", "a", "d")
# The names of point 29 that make up each prediction.
USED = ((), ("L",), ("U",), ("C",), ("L", "U", "C"), ("H",), ("L", "LL"), ("U", "UU"))


def is_earlier(place, cell, word):
    """Tell whether a cell is sent before another one, by pass, then row, then column."""
    keys = [(pass_by_hand(x, y, word), y, x) for x, y in (place, cell)]
    return keys[0] < keys[1]


class NeighbourTest(unittest.TestCase):
    def test_the_names(self):
        self.assertEqual(FILTERS, ("none", "left", "up", "corner", "plane", "ahead", "slope", "fall"))

    def test_neighbours_that_do_not_depend_on_the_letter(self):
        wanted = {0: (), 1: ((-1, 0, 1),), 2: ((0, -1, 1),), 3: ((-1, -1, 1),),
                  4: ((-1, -1, -1), (0, -1, 1), (-1, 0, 1)),
                  6: ((-2, 0, -1), (-1, 0, 2)), 7: ((0, -2, -1), (0, -1, 2))}
        for number, triples in wanted.items():
            for letter in LETTERS:
                self.assertEqual(neighbours(number, letter), triples)

    def test_ahead_goes_by_the_letter(self):
        self.assertEqual(neighbours(5, "a"), ((1, 0, 1),))
        self.assertEqual(neighbours(5, "d"), ((0, 1, 1),))
        self.assertEqual(neighbours(5, ""), ())

    def test_triples_ascend_and_no_place_comes_twice(self):
        for number in range(8):
            for letter in LETTERS:
                triples = neighbours(number, letter)
                self.assertIs(type(triples), tuple)
                places = [(dy, dx) for dx, dy, _ in triples]
                self.assertEqual(places, sorted(set(places)))
                self.assertTrue(are_plain_integers(triples))

    def test_the_prediction_is_the_weighted_sum_of_the_neighbours(self):
        sheet = some_sheet(chances(44), 1000, 12, 12)
        for word in ("", "a", "d", "ad", "dda"):
            for x, y in ((0, 0), (4, 4), (5, 4), (4, 5), (5, 5), (11, 11), (6, 8)):
                own = pass_by_hand(x, y, word)
                across, down = steps_by_hand(word, own)
                for number in range(8):
                    total = 0
                    for dx, dy, weight in neighbours(number, word[own - 1] if own else ""):
                        i, j = x + dx * across, y + dy * down
                        if 0 <= i < 12 and 0 <= j < 12:
                            total += weight * sheet[i, j]
                    self.assertEqual(predicted(sheet, x, y, number, word), total % 1000)


class PredictedTest(unittest.TestCase):
    def test_inside(self):
        sheet = Sheet(1000, [[1, 2, 4], [8, 16, 32], [64, 128, 256]])
        got = [predicted(sheet, 2, 2, number, "") for number in range(8)]
        self.assertEqual(got, [0, 128, 32, 16, 128 + 32 - 16, 0, 2 * 128 - 64, 2 * 32 - 4])

    def test_the_cells_of_the_corners(self):
        sheet = Sheet(1000, [[1, 2, 4], [8, 16, 32], [64, 128, 256]])
        self.assertEqual([predicted(sheet, 0, 0, number, "") for number in range(8)], [0] * 8)
        got = [predicted(sheet, 2, 0, number, "") for number in range(8)]
        self.assertEqual(got, [0, 2, 0, 0, 2, 0, 3, 0])
        got = [predicted(sheet, 0, 2, number, "") for number in range(8)]
        self.assertEqual(got, [0, 0, 8, 0, 8, 0, 0, 15])

    def test_the_second_cell_of_a_row_and_of_a_column(self):
        sheet = Sheet(1000, [[1, 2, 4], [8, 16, 32], [64, 128, 256]])
        self.assertEqual([predicted(sheet, 1, 0, number, "") for number in range(8)], [0, 1, 0, 0, 1, 0, 2, 0])
        self.assertEqual([predicted(sheet, 0, 1, number, "") for number in range(8)], [0, 0, 1, 0, 1, 0, 0, 2])
        self.assertEqual([predicted(sheet, 1, 1, number, "") for number in range(8)], [0, 8, 2, 1, 9, 0, 16, 4])

    def test_ahead(self):
        sheet = Sheet(1000, [[1, 2, 4], [8, 16, 32], [64, 128, 256]])
        self.assertEqual([predicted(sheet, x, 0, 5, "a") for x in range(3)], [0, 4, 0])
        self.assertEqual([predicted(sheet, 1, y, 5, "a") for y in range(3)], [4, 32, 256])
        self.assertEqual([predicted(sheet, x, 1, 5, "d") for x in range(3)], [64, 128, 256])
        self.assertEqual(predicted(Sheet(9, [[1, 2]]), 1, 0, 5, "a"), 0)
        self.assertEqual(predicted(Sheet(9, [[1], [2]]), 0, 1, 5, "d"), 0)

    def test_it_is_taken_modulo_the_modulus(self):
        sheet = Sheet(10, [[9, 0], [0, 5]])
        self.assertEqual(predicted(sheet, 1, 1, 4, ""), 1)
        sheet = Sheet(10, [[3, 9, 0]])
        self.assertEqual(predicted(sheet, 2, 0, 6, ""), 5)
        sheet = Sheet(10, [[9], [2], [0]])
        self.assertEqual(predicted(sheet, 0, 2, 7, ""), 5)
        self.assertEqual([predicted(Sheet.even(1, 3, 3), 2, 2, number, "ad") for number in range(8)], [0] * 8)

    def test_all_filters_by_the_table(self):
        chance = chances(45)
        for width, height in SIZES:
            for word in ("", "a", "d", "da", "adadad", "aaaaaa", "dddddd"):
                for modulus in (1, 2, 65535, 65536):
                    sheet = some_sheet(chance, modulus, width, height)
                    cells = [(0, 0), (width - 1, 0), (0, height - 1), (width - 1, height - 1)]
                    cells += [(chance.randrange(width), chance.randrange(height)) for _ in range(6)]
                    for x, y in cells:
                        got = [predicted(sheet, x, y, number, word) for number in range(8)]
                        wanted = [prediction_by_hand(sheet, x, y, number, word) for number in range(8)]
                        self.assertEqual(got, wanted, (width, height, word, modulus, x, y))
                        self.assertTrue(are_plain_integers(got))

    def test_cells_outside(self):
        sheet = Sheet(7, [[1, 2, 3], [4, 5, 6]])
        for x, y in ((-1, 0), (0, -1), (3, 0), (0, 2), (2, 3), (-3, -2), (40, 40)):
            for number in range(8):
                for word in ("", "ad"):
                    with self.assertRaises(NoCell) as caught:
                        predicted(sheet, x, y, number, word)
                    self.assertEqual((caught.exception.x, caught.exception.y), (x, y))


class EarlierTest(unittest.TestCase):
    def test_every_prediction_depends_on_earlier_cells_alone(self):
        sheet = some_sheet(chances(46), 65536, 9, 8)
        for word in ("", "a", "d", "ad", "daa"):
            cells = [(x, y) for x in range(9) for y in range(8)]
            for x, y in ((0, 0), (4, 4), (5, 4), (5, 5), (3, 2), (6, 7), (8, 7)):
                later = sheet
                for i, j in cells:
                    if not is_earlier((i, j), (x, y), word):
                        later = later.changed(i, j, (later[i, j] + 1) % 65536)
                for number in range(8):
                    got = predicted(later, x, y, number, word)
                    self.assertEqual(got, predicted(sheet, x, y, number, word), (word, x, y, number))

    def test_every_neighbour_that_counts_is_looked_at(self):
        sheet = some_sheet(chances(47), 65536, 17, 17)
        for word in ("", "a", "d", "ad", "daa"):
            for x, y in ((8, 8), (9, 8), (8, 9), (9, 9), (10, 12)):
                places = places_by_hand(x, y, word)
                for number, names in enumerate(USED):
                    before = predicted(sheet, x, y, number, word)
                    for name, (i, j) in places.items():
                        other = sheet.changed(i, j, (sheet[i, j] + 1) % 65536)
                        changes = predicted(other, x, y, number, word) != before
                        self.assertEqual(changes, name in names, (word, x, y, number, name))

    def test_neighbours_inside_are_earlier_in_every_word(self):
        for word in WORDS:
            for x, y in ((16, 16), (17, 16), (16, 17), (18, 20), (20, 18), (0, 0), (39, 39), (39, 0), (0, 39)):
                own = pass_of(x, y, word)
                across, down = grid_steps(word, own)
                for number in range(8):
                    for dx, dy, _ in neighbours(number, word[own - 1] if own else ""):
                        i, j = x + dx * across, y + dy * down
                        if 0 <= i < 40 and 0 <= j < 40:
                            self.assertTrue(is_earlier((i, j), (x, y), word), (word, x, y, number))

    def test_the_passes_of_the_neighbours_go_by_the_letter(self):
        # Point 30: for "a" the cells L, C, H are sent in earlier passes; for "d" the cells U, C, H are.
        for word, earlier in (("a", "LCH"), ("d", "UCH"), ("dda", "LCH"), ("aad", "UCH")):
            x, y = (17, 20) if earlier == "LCH" else (20, 17)
            own = pass_of(x, y, word)
            self.assertEqual(own, len(word))
            for name, (i, j) in places_by_hand(x, y, word).items():
                self.assertEqual(pass_of(i, j, word) < own, name in earlier, (word, name))
                self.assertLessEqual(pass_of(i, j, word), own)


if __name__ == "__main__":
    unittest.main()
