"""Point 26: coarse views."""

import unittest

from keptpictures.passes.views import coarse_view
from keptpictures.sheets.sheet import Sheet
from tests.helpers import chances, some_sheet
from tests.passes_by_hand import SIZES, WORDS, pass_by_hand, steps_by_hand

SOME_WORDS = ("", "a", "d", "ad", "dda", "adadad", "aaaaaa", "dddddd")


class ViewTest(unittest.TestCase):
    def test_an_example(self):
        sheet = Sheet(20, [[0, 1, 2, 3, 4], [5, 6, 7, 8, 9], [10, 11, 12, 13, 14]])
        wanted = Sheet(20, [[0, 0, 2, 2, 4], [0, 0, 2, 2, 4], [10, 10, 12, 12, 14]])
        self.assertEqual(coarse_view(sheet, "ad", 1), wanted)
        wanted = Sheet(20, [[0, 1, 2, 3, 4], [0, 1, 2, 3, 4], [10, 11, 12, 13, 14]])
        self.assertEqual(coarse_view(sheet, "ad", 2), wanted)
        self.assertEqual(coarse_view(sheet, "ad", 3), sheet)

    def test_the_definition(self):
        chance = chances(40)
        for width, height in SIZES:
            for word in SOME_WORDS:
                sheet = some_sheet(chance, 65536, width, height)
                for passes in range(1, len(word) + 2):
                    across, down = steps_by_hand(word, passes - 1)
                    rows = [[sheet[x - x % across, y - y % down] for x in range(width)] for y in range(height)]
                    self.assertEqual(coarse_view(sheet, word, passes), Sheet(65536, rows))

    def test_after_all_passes_it_is_the_sheet(self):
        chance = chances(41)
        for word in WORDS:
            sheet = some_sheet(chance, 7, 5, 9)
            self.assertEqual(coarse_view(sheet, word, len(word) + 1), sheet)

    def test_it_keeps_the_modulus_and_the_size(self):
        for modulus in (1, 2, 65535, 65536):
            for width, height in SIZES:
                view = coarse_view(Sheet.even(modulus, width, height, modulus - 1), "adadad", 1)
                self.assertEqual(view, Sheet.even(modulus, width, height, modulus - 1))

    def test_it_depends_on_the_passes_before_alone(self):
        chance = chances(42)
        for word in ("ad", "da", "adda", "aaadd"):
            sheet = some_sheet(chance, 65536, 11, 10)
            for passes in range(1, len(word) + 2):
                view = coarse_view(sheet, word, passes)
                for _ in range(10):
                    x, y = chance.randrange(11), chance.randrange(10)
                    other = coarse_view(sheet.changed(x, y, (sheet[x, y] + 1) % 65536), word, passes)
                    self.assertEqual(other == view, pass_by_hand(x, y, word) >= passes)

    def test_the_view_of_a_view(self):
        chance = chances(43)
        for word in ("", "ad", "dadada", "aaaddd"):
            sheet = some_sheet(chance, 100, 13, 20)
            for late in range(1, len(word) + 2):
                for early in range(1, late + 1):
                    got = coarse_view(coarse_view(sheet, word, late), word, early)
                    self.assertEqual(got, coarse_view(sheet, word, early))

    def test_the_sheet_stays(self):
        sheet = Sheet(4, [[0, 1], [2, 3]])
        self.assertEqual(coarse_view(sheet, "ad", 1), Sheet.even(4, 2, 2))
        self.assertEqual(sheet, Sheet(4, [[0, 1], [2, 3]]))


if __name__ == "__main__":
    unittest.main()
