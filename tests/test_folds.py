"""Point 32: folded residuals."""

import unittest

from keptpictures.filters.folds import fold, unfold
from tests.filters_by_hand import folds_by_hand
from tests.helpers import are_plain_integers


class FoldTest(unittest.TestCase):
    def test_an_odd_modulus(self):
        self.assertEqual([fold(residual, 5) for residual in range(5)], [0, 2, 4, 3, 1])
        self.assertEqual([unfold(number, 5) for number in range(5)], [0, 4, 1, 3, 2])

    def test_an_even_modulus(self):
        self.assertEqual([fold(residual, 6) for residual in range(6)], [0, 2, 4, 5, 3, 1])
        self.assertEqual([unfold(number, 6) for number in range(6)], [0, 5, 1, 4, 2, 3])

    def test_least_moduli(self):
        self.assertEqual((fold(0, 1), unfold(0, 1)), (0, 0))
        self.assertEqual([fold(residual, 2) for residual in (0, 1)], [0, 1])
        self.assertEqual([unfold(number, 2) for number in (0, 1)], [0, 1])

    def test_greatest_moduli(self):
        self.assertEqual([fold(residual, 65535) for residual in (0, 65534, 1, 65533, 2)], [0, 1, 2, 3, 4])
        self.assertEqual([fold(residual, 65535) for residual in (32766, 32767, 32768)], [65532, 65534, 65533])
        self.assertEqual([fold(residual, 65536) for residual in (0, 65535, 1, 65534, 2)], [0, 1, 2, 3, 4])
        self.assertEqual([fold(residual, 65536) for residual in (32767, 32768, 32769)], [65534, 65535, 65533])

    def test_every_residual_and_every_number(self):
        for modulus in (*range(1, 70), 255, 256, 65535, 65536):
            residuals = folds_by_hand(modulus)
            self.assertEqual([unfold(number, modulus) for number in range(modulus)], residuals)
            self.assertEqual([fold(residual, modulus) for residual in residuals], list(range(modulus)))

    def test_integers(self):
        self.assertTrue(are_plain_integers([fold(1, 2), fold(0, 2), unfold(1, 2), unfold(0, 2)]))


if __name__ == "__main__":
    unittest.main()
