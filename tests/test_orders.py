"""Points 21 and 22: orders, drawings and renamings."""

import unittest

from keptpictures.errors import TooMany
from keptpictures.palettes.orders import drawing, palette_of, renaming
from keptpictures.palettes.palette import Palette
from keptpictures.pictures.picture import Picture
from tests.helpers import all_pictures, are_plain_integers, chances, some_picture

ORDERS = ("value", "first", "often")


def picture_of(*rows, depths=(8,)):
    """Return the picture of one plane whose samples stand in the rows."""
    return Picture.of(depths, [[(sample,) for sample in row] for row in rows])


def with_colours(many, width=40):
    """Return a picture with this many colours, the greatest ones first, and then again the greatest one."""
    height = -(-many // width)
    samples = [max(many - number, 0) or many for number in range(width * height)]
    return picture_of(*[samples[y * width:(y + 1) * width] for y in range(height)], depths=(16,))


class PaletteOfTest(unittest.TestCase):
    def test_an_example(self):
        picture = picture_of([5, 9, 5], [2, 9, 5], [7, 2, 1])
        self.assertEqual(palette_of(picture, "value").entries, ((1,), (2,), (5,), (7,), (9,)))
        self.assertEqual(palette_of(picture, "first").entries, ((5,), (9,), (2,), (7,), (1,)))
        self.assertEqual(palette_of(picture, "often").entries, ((5,), (2,), (9,), (1,), (7,)))

    def test_the_order_is_by_value_unless_told_otherwise(self):
        picture = picture_of([5, 9, 5, 1])
        self.assertEqual(palette_of(picture), palette_of(picture, "value"))
        self.assertEqual(palette_of(picture, order="first").entries, ((5,), (9,), (1,)))

    def test_first_goes_by_rows_and_not_by_columns(self):
        self.assertEqual(palette_of(picture_of([1, 2], [3, 4]), "first").entries, ((1,), (2,), (3,), (4,)))
        self.assertEqual(palette_of(picture_of([4, 3], [2, 1]), "first").entries, ((4,), (3,), (2,), (1,)))

    def test_colours_of_several_planes_are_ordered_as_tuples(self):
        picture = Picture.of((2, 2), [[(1, 0), (0, 3), (0, 2), (1, 0)]], False)
        self.assertEqual(palette_of(picture).entries, ((0, 2), (0, 3), (1, 0)))
        self.assertEqual(palette_of(picture, "first").entries, ((1, 0), (0, 3), (0, 2)))
        self.assertEqual(palette_of(picture, "often").entries, ((1, 0), (0, 2), (0, 3)))

    def test_it_has_the_depths_and_each_colour_once(self):
        chance = chances(20)
        for depths, mask in (((1,), False), ((2, 1), True), ((1, 2, 1), False)):
            picture = some_picture(chance, 9, 5, depths, mask)
            for order in ORDERS:
                palette = palette_of(picture, order)
                self.assertIsInstance(palette, Palette)
                self.assertEqual(palette.depths, depths)
                self.assertEqual(sorted(palette), picture.colour_list())
                self.assertEqual(palette.painted(palette.indexed(picture), mask), picture)

    def test_often_counts_the_cells(self):
        picture = picture_of([3, 3, 3, 1], [1, 0, 0, 2], [2, 1, 9, 3])
        self.assertEqual(palette_of(picture, "often").entries, ((3,), (1,), (0,), (2,), (9,)))

    def test_one_colour(self):
        for order in ORDERS:
            self.assertEqual(palette_of(picture_of([7]), order).entries, ((7,),))

    def test_64_colours_are_not_too_many(self):
        for order in ORDERS:
            self.assertEqual(len(palette_of(with_colours(64), order)), 64)
        self.assertEqual(palette_of(with_colours(64), "first").entries, tuple((64 - k,) for k in range(64)))
        self.assertEqual(palette_of(with_colours(64), "often").entries,
                         ((64,),) + tuple((k,) for k in range(1, 64)))

    def test_65_colours_are(self):
        for many in (65, 66, 1000, 1600):
            for order in ORDERS:
                with self.assertRaises(TooMany) as caught:
                    palette_of(with_colours(many), order)
                self.assertEqual(caught.exception.number, many)
            with self.assertRaises(TooMany):
                palette_of(with_colours(many))


class DrawingTest(unittest.TestCase):
    def test_an_example(self):
        got = drawing(picture_of([5, 9, 5], [2, 9, 7]))
        self.assertEqual(got, ((0, 1, 0), (2, 1, 3)))
        self.assertTrue(type(got) is tuple and all(type(row) is tuple for row in got))
        self.assertTrue(are_plain_integers(got))

    def test_any_number_of_colours(self):
        got = drawing(with_colours(1600))
        self.assertEqual(got, tuple(tuple(range(40 * y, 40 * y + 40)) for y in range(40)))

    def test_one_colour(self):
        self.assertEqual(drawing(picture_of([7, 7], [7, 7])), ((0, 0), (0, 0)))

    def test_the_numbers_of_earlier_colours(self):
        chance = chances(21)
        for _ in range(20):
            picture = some_picture(chance, 5, 4, (1, 2))
            row_order = [colour for row in picture for colour in row]
            got = [number for row in drawing(picture) for number in row]
            wanted = [len(set(row_order[:row_order.index(colour)])) for colour in row_order]
            self.assertEqual(got, wanted)

    def test_equal_drawings_mean_a_renaming_one_to_one(self):
        pictures = all_pictures(2, 2, (2,))[::5]
        for one in pictures:
            for other in pictures:
                pairs = {(one[x, y], other[x, y]) for y in range(2) for x in range(2)}
                one_to_one = len({a for a, _ in pairs}) == len({b for _, b in pairs}) == len(pairs)
                self.assertEqual(drawing(one) == drawing(other), one_to_one)
                self.assertEqual(renaming(one, other), sorted(pairs) if one_to_one else None)


class RenamingTest(unittest.TestCase):
    def test_an_example(self):
        one, other = picture_of([5, 9, 5], [2, 9, 7]), picture_of([1, 0, 1], [8, 0, 3])
        self.assertEqual(renaming(one, other), [((2,), (8,)), ((5,), (1,)), ((7,), (3,)), ((9,), (0,))])
        self.assertIs(type(renaming(one, other)), list)
        self.assertEqual(renaming(other, one), [((0,), (9,)), ((1,), (5,)), ((3,), (7,)), ((8,), (2,))])

    def test_the_depths_may_differ(self):
        one = picture_of([1, 0, 1], depths=(1,))
        other = Picture.of((4, 1), [[(9, 0), (9, 1), (9, 0)]], True)
        self.assertEqual(renaming(one, other), [((0,), (9, 1)), ((1,), (9, 0))])
        self.assertEqual(renaming(other, one), [((9, 0), (1,)), ((9, 1), (0,))])

    def test_other_drawings(self):
        self.assertIsNone(renaming(picture_of([1, 1, 2]), picture_of([1, 2, 2])))
        self.assertIsNone(renaming(picture_of([1, 1, 2]), picture_of([1, 1, 1])))
        self.assertIsNone(renaming(picture_of([1, 1, 1]), picture_of([1, 1, 2])))

    def test_a_picture_is_renamed_to_itself(self):
        picture = with_colours(100)
        self.assertEqual(renaming(picture, picture), [(colour, colour) for colour in picture.colour_list()])


class SharingTest(unittest.TestCase):
    def test_the_picture_stays(self):
        picture = picture_of([5, 9, 5])
        for order in ORDERS:
            palette_of(picture, order)
        drawing(picture)
        self.assertEqual(picture, picture_of([5, 9, 5]))

    def test_a_renaming_that_was_returned_is_not_kept(self):
        one, other = picture_of([5, 9]), picture_of([1, 0])
        pairs = renaming(one, other)
        pairs.clear()
        self.assertEqual(renaming(one, other), [((5,), (1,)), ((9,), (0,))])
        self.assertEqual((one, other), (picture_of([5, 9]), picture_of([1, 0])))


if __name__ == "__main__":
    unittest.main()
