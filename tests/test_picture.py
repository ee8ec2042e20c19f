"""Points 11 and 12: pictures."""

import unittest

from keptpictures.errors import BadPicture, NoCell, Unlike
from keptpictures.pictures.picture import Picture
from keptpictures.sheets.sheet import Sheet
from tests.helpers import are_plain_integers, chances, some_picture, some_sheet

OUTSIDE = ((-1, 0), (0, -1), (-1, -1), (2, 0), (0, 2), (2, 2), (-2, 0), (10 ** 30, 0), (0, -10 ** 30))


class PictureTest(unittest.TestCase):
    def test_attributes(self):
        red, shown = Sheet(256, [[5, 6, 7], [8, 9, 255]]), Sheet(2, [[0, 1, 1], [1, 0, 1]])
        picture = Picture([red, shown], True)
        self.assertEqual(picture.planes, (red, shown))
        self.assertIs(type(picture.planes), tuple)
        self.assertIs(picture.mask, True)
        self.assertEqual((picture.width, picture.height, picture.depths), (3, 2, (8, 1)))
        self.assertEqual(picture.rows, (((5, 0), (6, 1), (7, 1)), ((8, 1), (9, 0), (255, 1))))
        self.assertTrue(are_plain_integers(picture.rows))
        self.assertTrue(are_plain_integers((picture.width, picture.height, picture.depths)))

    def test_there_is_no_mask_unless_it_is_asked_for(self):
        planes = (Sheet(2, [[0]]), Sheet(2, [[0]]))
        self.assertIs(Picture(planes).mask, False)
        self.assertIs(Picture(planes, mask=True).mask, True)
        self.assertIs(Picture.of((1, 1), [[(0, 0)]]).mask, False)
        self.assertIs(Picture.of((1, 1), [[(0, 0)]], True).mask, True)

    def test_each_depth(self):
        for depth in range(1, 17):
            top = 2 ** depth - 1
            picture = Picture([Sheet(2 ** depth, [[0, top]])])
            self.assertEqual((picture.depths, picture.rows), ((depth,), (((0,), (top,)),)))
            self.assertEqual(Picture.of((depth,), [[(0,), (top,)]]), picture)

    def test_one_to_four_planes(self):
        for many in (1, 2, 3, 4):
            planes = [Sheet(2 ** (k + 1), [[k % 2]]) for k in range(many)]
            picture = Picture(planes)
            self.assertEqual(picture.depths, (1, 2, 3, 4)[:many])
            self.assertEqual(picture[0, 0], (0, 1, 0, 1)[:many])

    def test_colours_by_cell(self):
        picture = Picture.of((4,), [[(1,), (2,)], [(3,), (4,)]])
        self.assertEqual([picture[x, y] for y in range(2) for x in range(2)], [(1,), (2,), (3,), (4,)])
        self.assertEqual(list(picture), [((1,), (2,)), ((3,), (4,))])
        self.assertEqual(list(picture), [((1,), (2,)), ((3,), (4,))])

    def test_places_outside_have_no_cell(self):
        rows = [[(1, 0), (2, 0)], [(3, 0), (4, 0)]]
        for mask in (False, True):
            picture = Picture.of((4, 1), rows, mask)
            for x, y in OUTSIDE:
                with self.assertRaises(NoCell) as caught:
                    picture[x, y]
                self.assertEqual((caught.exception.x, caught.exception.y), (x, y))
                with self.assertRaises(NoCell) as caught:
                    picture.is_clear(x, y)
                self.assertEqual((caught.exception.x, caught.exception.y), (x, y))

    def test_clear_cells(self):
        rows = [[(0, 0), (3, 0)], [(0, 1), (3, 1)]]
        masked, plain = Picture.of((2, 1), rows, True), Picture.of((2, 1), rows)
        got = [masked.is_clear(x, y) for y in range(2) for x in range(2)]
        self.assertEqual(got, [True, True, False, False])
        self.assertTrue(all(type(clear) is bool for clear in got))
        for y in range(2):
            for x in range(2):
                self.assertIs(plain.is_clear(x, y), False)

    def test_colour_list(self):
        rows = [[(3, 0), (0, 7), (3, 0)], [(0, 2), (3, 0), (1, 1)]]
        picture = Picture.of((2, 3), rows)
        self.assertEqual(picture.colour_list(), [(0, 2), (0, 7), (1, 1), (3, 0)])
        self.assertIs(type(picture.colour_list()), list)
        many = Picture.of((16,), [[(1600 - 40 * y - x,) for x in range(40)] for y in range(40)])
        self.assertEqual(many.colour_list(), [(number,) for number in range(1, 1601)])

    def test_equality(self):
        rows = [[(1, 0), (2, 1)]]
        picture = Picture.of((2, 1), rows)
        self.assertTrue(picture == Picture([Sheet(4, [[1, 2]]), Sheet(2, [[0, 1]])]))
        self.assertFalse(picture != Picture.of((2, 1), rows))
        self.assertTrue(Picture.of((2, 1), rows, True) == Picture.of((2, 1), rows, True))
        self.assertFalse(picture == Picture.of((2, 1), rows, True))
        self.assertFalse(picture == Picture.of((3, 1), rows))
        self.assertFalse(picture == Picture.of((2, 1), [[(1, 0), (2, 0)]]))
        self.assertFalse(picture == Picture.of((2, 1), [[(1, 0)], [(2, 1)]]))
        self.assertFalse(picture == Picture.of((2,), [[(1,), (2,)]]))

    def test_a_picture_equals_nothing_but_pictures(self):
        sheet = Sheet(2, [[1]])
        picture = Picture([sheet])
        for other in (sheet, [sheet], (sheet,), picture.rows, [[(1,)]], None, 1, "picture"):
            self.assertFalse(picture == other)
            self.assertFalse(other == picture)


class BadPictureTest(unittest.TestCase):
    def refused(self, planes, mask=False):
        with self.assertRaises(BadPicture):
            Picture(planes, mask)

    def test_the_number_of_planes(self):
        sheet = Sheet(2, [[1]])
        for mask in (False, True):
            self.refused([], mask)
            self.refused((), mask)
            self.refused([sheet] * 5, mask)
            self.refused([sheet] * 6, mask)
        self.assertEqual(len(Picture([sheet] * 4).planes), 4)

    def test_planes_of_other_sizes(self):
        for sizes in (((2, 2), (2, 1)), ((2, 2), (1, 2)), ((2, 1), (1, 2)), ((2, 2), (2, 2), (3, 2)),
                      ((2, 2), (2, 2), (2, 2), (2, 3))):
            planes = [Sheet.even(2, width, height) for width, height in sizes]
            self.refused(planes)
            self.refused(planes[::-1])

    def test_moduli_that_are_no_power_of_two(self):
        good = Sheet.even(2, 2, 2)
        for modulus in (1, 3, 5, 6, 7, 12, 255, 257, 65534, 65535, 65537, 131072):
            self.refused([Sheet.even(modulus, 2, 2)])
            self.refused([good, Sheet.even(modulus, 2, 2)])
            self.refused([Sheet.even(modulus, 2, 2), good])
            self.refused([Sheet.even(modulus, 2, 2), good], True)

    def test_masks(self):
        thin, thick = Sheet.even(2, 2, 2), Sheet.even(4, 2, 2)
        self.refused([thin], True)
        self.refused([thick], True)
        self.refused([thin, thick], True)
        self.refused([thick, thick], True)
        self.refused([thick, thin, thick, thick], True)
        for planes in ([thin, thin], [thick, thin], [thick, thick, thick, thin]):
            self.assertIs(Picture(planes, True).mask, True)


class PictureOfTest(unittest.TestCase):
    def refused(self, depths, rows, mask=False):
        with self.assertRaises(BadPicture):
            Picture.of(depths, rows, mask)

    def test_it_gives_the_picture_of_these_rows(self):
        chance = chances(8)
        for depths in ((1,), (16,), (3, 1), (8, 8, 8, 1)):
            for width, height in ((1, 1), (40, 1), (1, 40), (40, 40)):
                planes = [some_sheet(chance, 2 ** depth, width, height) for depth in depths]
                rows = [[tuple(plane[x, y] for plane in planes) for x in range(width)] for y in range(height)]
                picture = Picture.of(depths, rows)
                self.assertEqual(picture, Picture(planes))
                self.assertEqual((picture.depths, picture.width, picture.height), (depths, width, height))
                self.assertEqual([list(row) for row in picture], rows)

    def test_rows_may_be_lists_or_tuples(self):
        wanted = Picture([Sheet(4, [[1, 2], [3, 0]])])
        for rows in ([[(1,), (2,)], [(3,), (0,)]], (((1,), (2,)), ((3,), (0,))), ([(1,), (2,)], [(3,), (0,)])):
            self.assertEqual(Picture.of((2,), rows), wanted)

    def test_the_number_of_rows(self):
        for many in (0, 41, 50):
            self.refused((1,), [[(0,)]] * many)
            self.refused((1,), ((((0,),),) * many))
        self.assertEqual(Picture.of((1,), [[(0,)]] * 40).height, 40)

    def test_the_number_of_colours_in_a_row(self):
        for many in (0, 41, 50):
            self.refused((1,), [[(0,)] * many])
            self.refused((1,), [[(0,)] * many] * 2)
        self.assertEqual(Picture.of((1,), [[(0,)] * 40]).width, 40)

    def test_rows_of_other_lengths(self):
        for lengths in ((2, 1), (1, 2), (2, 2, 3), (2, 2, 0), (0, 1), (40, 41), (39, 40)):
            self.refused((1,), [[(0,)] * length for length in lengths])

    def test_colours_that_do_not_fit(self):
        cases = (
            ((1,), ((2,), (-1,), (), (0, 0), (10 ** 60,))),
            ((4,), ((16,), (-16,), (0, 0))),
            ((16,), ((65536,), (-1,))),
            ((2, 3), ((4, 0), (0, 8), (0,), (0, 0, 0), (-1, 0), (0, -1), (7, 3))),
        )
        for depths, colours in cases:
            good = (0,) * len(depths)
            for bad in colours:
                self.refused(depths, [[bad]])
                self.refused(depths, [[good, bad], [good, good]])
                self.refused(depths, [[good, good], [good, bad]])
            self.assertEqual(Picture.of(depths, [[good]])[0, 0], good)

    def test_depths(self):
        self.refused((), [[()]])
        self.refused((1,) * 5, [[(0,) * 5]])
        self.refused((1,) * 6, [[(0,) * 6]])
        for depth in (0, 17, 18, 20):
            self.refused((depth,), [[(0,)]])
            self.refused((1, depth), [[(0, 0)]])
            self.refused((depth, 1), [[(0, 0)]], True)

    def test_masks(self):
        self.refused((1,), [[(0,)]], True)
        self.refused((1, 2), [[(0, 0)]], True)
        self.refused((1, 16), [[(0, 0)]], True)
        self.assertIs(Picture.of((1, 1), [[(0, 0)]], True).mask, True)
        self.assertIs(Picture.of((4, 4, 4, 1), [[(0, 0, 0, 0)]], True).mask, True)


class LayTest(unittest.TestCase):
    def test_clear_cells_show_what_is_below(self):
        top = Picture.of((4, 1), [[(1, 0), (2, 1)], [(3, 1), (4, 0)]], True)
        bottom = Picture.of((4, 1), [[(5, 1), (6, 1)], [(7, 0), (8, 0)]], True)
        laid = top | bottom
        self.assertEqual(laid, Picture.of((4, 1), [[(5, 1), (2, 1)], [(3, 1), (8, 0)]], True))
        self.assertIs(laid.mask, True)
        self.assertEqual(top[0, 0], (1, 0))
        self.assertEqual(bottom[1, 0], (6, 1))

    def test_cell_by_cell(self):
        chance = chances(9)
        for depths in ((1, 1), (3, 2, 1), (16, 8, 4, 1)):
            for width, height in ((1, 1), (5, 3), (40, 40)):
                top, bottom = (some_picture(chance, width, height, depths, True) for _ in range(2))
                laid = top | bottom
                self.assertEqual((laid.depths, laid.width, laid.height), (depths, width, height))
                for y in range(height):
                    for x in range(width):
                        seen = bottom if top.is_clear(x, y) else top
                        self.assertEqual(laid[x, y], seen[x, y])

    def test_both_must_have_masks(self):
        rows = [[(1, 0)]]
        masked, plain = Picture.of((4, 1), rows, True), Picture.of((4, 1), rows)
        for top, bottom in ((masked, plain), (plain, masked), (plain, plain)):
            with self.assertRaises(Unlike):
                top | bottom

    def test_sizes_and_depths_must_be_equal(self):
        def even(width, height, depths):
            return Picture.of(depths, [[(0,) * len(depths)] * width] * height, True)

        picture = even(2, 3, (4, 1))
        for other in (even(3, 2, (4, 1)), even(2, 2, (4, 1)), even(1, 3, (4, 1)), even(2, 3, (3, 1)),
                      even(2, 3, (1, 1)), even(2, 3, (4, 4, 1))):
            for top, bottom in ((picture, other), (other, picture)):
                with self.assertRaises(Unlike):
                    top | bottom
        self.assertEqual(picture | even(2, 3, (4, 1)), picture)


class SharingTest(unittest.TestCase):
    def test_the_planes_that_were_passed_stay_and_are_not_kept(self):
        first, second = Sheet(2, [[0, 1]]), Sheet(2, [[1, 1]])
        planes = [first, second]
        picture = Picture(planes)
        self.assertEqual(planes, [first, second])
        planes[0] = second
        planes.append(first)
        self.assertEqual(picture.planes, (first, second))
        self.assertEqual(picture[0, 0], (0, 1))

    def test_the_rows_that_were_passed_stay_and_are_not_kept(self):
        rows = [[(0,), (1,)], [(2,), (3,)]]
        picture = Picture.of((2,), rows)
        self.assertEqual(rows, [[(0,), (1,)], [(2,), (3,)]])
        rows[0][0] = (3,)
        rows.pop()
        self.assertEqual(picture.rows, (((0,), (1,)), ((2,), (3,))))
        self.assertEqual(picture.planes, (Sheet(4, [[0, 1], [2, 3]]),))

    def test_a_colour_list_that_was_returned_is_not_kept(self):
        picture = Picture.of((2,), [[(3,), (1,)]])
        colours = picture.colour_list()
        colours.reverse()
        colours.append((0,))
        self.assertEqual(picture.colour_list(), [(1,), (3,)])
        self.assertEqual(picture.rows, (((3,), (1,)),))


if __name__ == "__main__":
    unittest.main()
