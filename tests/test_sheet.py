"""Points 6 and 7: sheets."""

import unittest

from keptpictures.errors import KeepError, NoCell, Unlike
from keptpictures.sheets.question import Question
from keptpictures.sheets.sheet import Sheet
from tests.helpers import HUGE, are_plain_integers, chances, some_rows, some_sheet

MODULI = (1, 2, 3, 4, 7, 12, 64, 65535, 65536)
OUTSIDE = ((-1, 0), (0, -1), (-1, -1), (3, 0), (0, 2), (3, 2), (2, 3), (-3, -2), (10 ** 30, 0), (0, -10 ** 30))


class SheetTest(unittest.TestCase):
    def test_attributes(self):
        sheet = Sheet(7, [[1, 2, 3], [4, 5, 6]])
        self.assertEqual((sheet.modulus, sheet.width, sheet.height), (7, 3, 2))
        self.assertEqual(sheet.rows, ((1, 2, 3), (4, 5, 6)))
        self.assertIs(type(sheet.rows), tuple)
        self.assertIs(type(sheet.rows[0]), tuple)

    def test_rows_may_be_lists_or_tuples(self):
        for rows in ([[1, 2], [3, 4]], ((1, 2), (3, 4)), [(1, 2), (3, 4)], ([1, 2], [3, 4])):
            self.assertEqual(Sheet(5, rows).rows, ((1, 2), (3, 4)))

    def test_least_and_greatest_sizes_and_moduli(self):
        for modulus in (1, 65536):
            for width, height in ((1, 1), (40, 1), (1, 40), (40, 40)):
                rows = some_rows(chances(1), modulus, width, height)
                sheet = Sheet(modulus, rows)
                self.assertEqual((sheet.modulus, sheet.width, sheet.height), (modulus, width, height))
                self.assertEqual([list(row) for row in sheet], rows)
                self.assertEqual(sheet[width - 1, height - 1], rows[height - 1][width - 1])

    def test_cells_are_counted_from_the_upper_left(self):
        sheet = Sheet(7, [[1, 2, 3], [4, 5, 6]])
        got = [sheet[x, y] for y in range(2) for x in range(3)]
        self.assertEqual(got, [1, 2, 3, 4, 5, 6])
        at = (2, 1)
        self.assertEqual(sheet[at], 6)

    def test_places_outside_have_no_cell(self):
        sheet = Sheet(7, [[1, 2, 3], [4, 5, 6]])
        for x, y in OUTSIDE:
            with self.assertRaises(NoCell) as caught:
                sheet[x, y]
            self.assertEqual((caught.exception.x, caught.exception.y), (x, y))

    def test_iteration_goes_over_the_rows(self):
        sheet = Sheet(7, [[1, 2, 3], [4, 5, 6]])
        self.assertEqual(list(sheet), [(1, 2, 3), (4, 5, 6)])
        self.assertEqual(list(sheet), [(1, 2, 3), (4, 5, 6)])

    def test_changed(self):
        sheet = Sheet(7, [[1, 2, 3], [4, 5, 6]])
        self.assertEqual(sheet.changed(2, 0, 0), Sheet(7, [[1, 2, 0], [4, 5, 6]]))
        self.assertEqual(sheet.changed(0, 1, 6), Sheet(7, [[1, 2, 3], [6, 5, 6]]))
        self.assertEqual(sheet.rows, ((1, 2, 3), (4, 5, 6)))
        self.assertIsNot(sheet.changed(0, 0, 5), sheet)
        self.assertEqual(sheet.changed(0, 0, 1), sheet)

    def test_changed_has_no_cell_outside(self):
        sheet = Sheet(7, [[1, 2, 3], [4, 5, 6]])
        for x, y in OUTSIDE:
            with self.assertRaises(NoCell) as caught:
                sheet.changed(x, y, 0)
            self.assertEqual((caught.exception.x, caught.exception.y), (x, y))
        self.assertEqual(sheet.rows, ((1, 2, 3), (4, 5, 6)))

    def test_even(self):
        self.assertEqual(Sheet.even(5, 3, 2), Sheet(5, [[0, 0, 0], [0, 0, 0]]))
        self.assertEqual(Sheet.even(5, 3, 2, 4), Sheet(5, [[4, 4, 4], [4, 4, 4]]))
        self.assertEqual(Sheet.even(1, 1, 40, sample=0).rows, ((0,),) * 40)
        self.assertEqual(Sheet.even(5, 2, 2).changed(1, 0, 3).rows, ((0, 3), (0, 0)))

    def test_equality(self):
        rows = [[1, 0], [0, 1]]
        sheet = Sheet(2, rows)
        self.assertTrue(sheet == Sheet(2, ((1, 0), (0, 1))))
        self.assertFalse(sheet != Sheet(2, rows))
        self.assertFalse(sheet == Sheet(3, rows))
        self.assertFalse(sheet == Sheet(2, [[1, 0], [1, 1]]))
        self.assertFalse(sheet == Sheet(2, [[1, 0]]))
        self.assertFalse(sheet == Sheet(2, [[1], [0]]))
        self.assertFalse(Sheet.even(2, 2, 1) == Sheet.even(2, 1, 2))
        self.assertTrue(sheet != Sheet(3, rows))

    def test_a_sheet_equals_nothing_but_sheets(self):
        sheet = Sheet(2, [[1]])
        for other in (((1,),), [[1]], (2, ((1,),)), 1, None, "sheet", Question([(0, 0, 1)]), sheet.rows):
            self.assertFalse(sheet == other)
            self.assertFalse(other == sheet)
            self.assertTrue(sheet != other)


class ArithmeticTest(unittest.TestCase):
    def test_an_example(self):
        one = Sheet(5, [[0, 1, 4]])
        other = Sheet(5, [[0, 4, 3]])
        self.assertEqual((one + other).rows, ((0, 0, 2),))
        self.assertEqual((one - other).rows, ((0, 2, 1),))
        self.assertEqual((other - one).rows, ((0, 3, 4),))
        self.assertEqual((-one).rows, ((0, 4, 1),))
        self.assertEqual((3 * one).rows, ((0, 3, 2),))
        self.assertEqual((one * -1).rows, ((0, 4, 1),))
        self.assertEqual((one * 0).rows, ((0, 0, 0),))

    def test_cell_by_cell_for_many_moduli(self):
        chance = chances(2)
        for modulus in MODULI:
            for width, height in ((1, 1), (3, 2), (40, 2), (2, 40)):
                one = some_sheet(chance, modulus, width, height)
                other = some_sheet(chance, modulus, width, height)
                factor = chance.randrange(-HUGE, HUGE + 1)
                results = (one + other, one - other, -one, factor * one, one * factor)
                for result in results:
                    self.assertEqual((result.modulus, result.width, result.height), (modulus, width, height))
                    self.assertTrue(are_plain_integers(result.rows))
                for y in range(height):
                    for x in range(width):
                        a, b = one[x, y], other[x, y]
                        wanted = [a + b, a - b, -a, factor * a, factor * a]
                        got = [result[x, y] for result in results]
                        self.assertEqual(got, [number % modulus for number in wanted])

    def test_factors_of_sixty_digits_on_either_side(self):
        sheet = Sheet(65536, [[1, 65535, 0]])
        for factor in (HUGE, -HUGE):
            wanted = ((factor % 65536, -factor % 65536, 0),)
            self.assertEqual((factor * sheet).rows, wanted)
            self.assertEqual((sheet * factor).rows, wanted)

    def test_modulus_one(self):
        sheet = Sheet.even(1, 2, 2)
        for result in (sheet + sheet, sheet - sheet, -sheet, 7 * sheet, sheet * -7):
            self.assertEqual(result, sheet)

    def test_laws(self):
        chance = chances(3)
        for modulus in MODULI:
            one, other, third = (some_sheet(chance, modulus, 4, 3) for _ in range(3))
            zero = Sheet.even(modulus, 4, 3)
            self.assertEqual(one + other, other + one)
            self.assertEqual((one + other) + third, one + (other + third))
            self.assertEqual(one + zero, one)
            self.assertEqual(one - one, zero)
            self.assertEqual(one - other, one + -other)
            self.assertEqual(--one, one)
            self.assertEqual(2 * one, one + one)
            self.assertEqual(modulus * one, zero)

    def test_sheets_that_are_not_alike(self):
        sheet = Sheet.even(4, 3, 2)
        for other in (Sheet.even(5, 3, 2), Sheet.even(2, 3, 2), Sheet.even(4, 2, 2), Sheet.even(4, 3, 1),
                      Sheet.even(4, 2, 3), Sheet.even(4, 4, 2), Sheet.even(4, 3, 3), Sheet.even(8, 1, 1)):
            for one, two in ((sheet, other), (other, sheet)):
                with self.assertRaises(Unlike):
                    one + two
                with self.assertRaises(Unlike) as caught:
                    one - two
                self.assertIsInstance(caught.exception, KeepError)

    def test_operands_stay(self):
        one = Sheet(5, [[0, 1, 4]])
        other = Sheet(5, [[2, 4, 3]])
        one + other, one - other, -one, 3 * one, one * 3
        self.assertEqual((one.rows, other.rows), (((0, 1, 4),), ((2, 4, 3),)))


class SharingTest(unittest.TestCase):
    def test_the_rows_that_were_passed_are_not_kept(self):
        rows = [[1, 2], [3, 4]]
        sheet = Sheet(5, rows)
        self.assertEqual(rows, [[1, 2], [3, 4]])
        rows[0][0] = 0
        rows.append([0, 0])
        self.assertEqual(sheet.rows, ((1, 2), (3, 4)))
        self.assertEqual((sheet[0, 0], sheet.height), (1, 2))
        self.assertEqual(list(sheet), [(1, 2), (3, 4)])

    def test_inner_lists_in_a_tuple_are_not_kept_either(self):
        row = [1, 2]
        sheet = Sheet(5, (row,))
        row[1] = 0
        self.assertEqual(sheet.rows, ((1, 2),))

    def test_calls_leave_the_rows_alone(self):
        rows = [[1, 2], [3, 4]]
        sheet = Sheet(5, rows)
        sheet.changed(0, 0, 4)
        sheet + sheet
        -sheet
        self.assertEqual(rows, [[1, 2], [3, 4]])


if __name__ == "__main__":
    unittest.main()
