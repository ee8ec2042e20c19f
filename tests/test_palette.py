"""Points 19, 20 and 23: palettes."""

import unittest

from keptpictures.errors import BadPalette, BadPicture, NoColour, NoEntry, TooMany, Unlike
from keptpictures.palettes.palette import Palette
from keptpictures.pictures.picture import Picture
from keptpictures.sheets.sheet import Sheet
from tests.helpers import are_plain_integers, chances

DEEP = (16,)


def numbers(first, end):
    """Return the colours with one sample from first to end - 1."""
    return [(number,) for number in range(first, end)]


class PaletteTest(unittest.TestCase):
    def test_attributes(self):
        palette = Palette([(3, 1), (0, 0)], (2, 1))
        self.assertEqual(palette.entries, ((3, 1), (0, 0)))
        self.assertEqual(palette.depths, (2, 1))
        self.assertIs(type(palette.entries), tuple)
        self.assertIs(type(palette.depths), tuple)
        self.assertEqual(Palette.LIMIT, 64)
        self.assertEqual(palette.LIMIT, 64)

    def test_colours_may_be_a_list_or_a_tuple(self):
        self.assertEqual(Palette(((1,), (0,)), (1,)), Palette([(1,), (0,)], (1,)))

    def test_length_and_iteration(self):
        for many in (1, 2, 63, 64):
            palette = Palette(numbers(0, many), DEEP)
            self.assertEqual(len(palette), many)
            self.assertEqual(list(palette), numbers(0, many))
            self.assertEqual(list(palette), numbers(0, many))

    def test_entries_by_number(self):
        palette = Palette([(3,), (0,), (2,)], (2,))
        self.assertEqual([palette[number] for number in range(3)], [(3,), (0,), (2,)])
        full = Palette(numbers(5, 69), DEEP)
        self.assertEqual((full[0], full[63]), ((5,), (68,)))

    def test_there_are_no_other_entries(self):
        for many in (1, 3, 64):
            palette = Palette(numbers(0, many), DEEP)
            for number in (-1, -many, many, many + 1, 100000, -100000, 10 ** 60):
                with self.assertRaises(NoEntry) as caught:
                    palette[number]
                self.assertEqual(caught.exception.place, number)

    def test_membership(self):
        palette = Palette([(3, 1), (0, 0)], (2, 1))
        self.assertIs((3, 1) in palette, True)
        self.assertIs((0, 0) in palette, True)
        for colour in ((1, 3), (3, 0), (), (3,), (3, 1, 0), (-1, 0), (100000, 1), (0,) * 6):
            self.assertIs(colour in palette, False)
            self.assertIs(colour not in palette, True)

    def test_index(self):
        palette = Palette([(3, 1), (0, 0), (2, 1)], (2, 1))
        self.assertEqual([palette.index(colour) for colour in ((3, 1), (0, 0), (2, 1))], [0, 1, 2])
        self.assertTrue(are_plain_integers([palette.index(colour) for colour in palette]))
        full = Palette(numbers(0, 64)[::-1], DEEP)
        self.assertEqual([full.index(full[number]) for number in range(64)], list(range(64)))

    def test_index_of_a_colour_that_is_not_there(self):
        palette = Palette([(3, 1), (0, 0)], (2, 1))
        for colour in ((1, 3), (3, 0), (), (3,), (3, 1, 0), (-1, 0), (100000, 1), (0,) * 6):
            with self.assertRaises(NoColour) as caught:
                palette.index(colour)
            self.assertEqual(caught.exception.colour, colour)

    def test_equality(self):
        palette = Palette([(1, 0), (0, 1)], (2, 1))
        self.assertTrue(palette == Palette(((1, 0), (0, 1)), (2, 1)))
        self.assertFalse(palette != Palette(((1, 0), (0, 1)), (2, 1)))
        for other in (Palette([(0, 1), (1, 0)], (2, 1)), Palette([(1, 0), (0, 1)], (1, 1)),
                      Palette([(1, 0), (0, 1)], (2, 2)), Palette([(1, 0)], (2, 1)),
                      Palette([(1, 0), (0, 1), (0, 0)], (2, 1))):
            self.assertFalse(palette == other)
            self.assertTrue(palette != other)

    def test_a_palette_equals_nothing_but_palettes(self):
        palette = Palette([(1,), (0,)], (1,))
        for other in (palette.entries, [(1,), (0,)], ((1,), (0,)), None, 2, "palette",
                      Picture.of((1,), [[(1,), (0,)]])):
            self.assertFalse(palette == other)
            self.assertFalse(other == palette)


class BadPaletteTest(unittest.TestCase):
    def refused(self, colours, depths, place):
        for given in (list(colours), tuple(colours)):
            with self.assertRaises(BadPalette) as caught:
                Palette(given, depths)
            self.assertEqual(caught.exception.place, place)

    def test_no_colours(self):
        self.refused([], (1,), 0)
        self.refused([], (8, 8, 8, 1), 0)

    def test_a_colour_that_does_not_fit(self):
        for bad in ((), (0,), (0, 0, 0), (4, 0), (0, 2), (-1, 0), (0, -1), (100000, 0), (0, -100000), (1, 3), (0,) * 6):
            self.refused([bad], (2, 1), 0)
            self.refused([(0, 0), (1, 1), bad, (1, 0)], (2, 1), 2)
        for bad in ((65536,), (-1,), (100000,), (0, 0)):
            self.refused([(0,), bad], DEEP, 1)
        self.assertEqual(len(Palette([(3, 1), (0, 0)], (2, 1))), 2)

    def test_a_colour_that_equals_an_earlier_one(self):
        self.refused([(1,), (0,), (1,)], (1,), 2)
        self.refused([(1,), (1,), (2,)], (1,), 1)
        self.refused([(0, 1), (1, 0), (1, 1), (1, 0), (0, 1)], (2, 1), 3)

    def test_the_first_wrong_one_is_named(self):
        self.refused([(0,), (2,), (0,)], (1,), 1)
        self.refused([(0,), (0,), (2,)], (1,), 1)
        self.refused([(7,), (7,)], (1,), 0)

    def test_more_than_64_colours(self):
        self.refused(numbers(0, 65), DEEP, 64)
        self.refused(numbers(0, 64) + [(0,)], DEEP, 64)
        self.refused(numbers(0, 64) + [()], DEEP, 64)
        self.refused(numbers(0, 200), DEEP, 64)
        self.refused(numbers(0, 70) + [(0,), ()], DEEP, 64)

    def test_a_wrong_one_among_the_first_64_comes_first(self):
        self.refused([(5,)] + numbers(0, 64), DEEP, 6)
        self.refused(numbers(0, 63) + [(62,)] + numbers(63, 70), DEEP, 63)
        self.refused([(-1,)] + numbers(0, 64), DEEP, 0)
        self.refused(numbers(0, 63) + [(65536,), (64,)], DEEP, 63)


class IndexedTest(unittest.TestCase):
    def test_an_example(self):
        palette = Palette([(3, 1), (0, 0), (2, 1)], (2, 1))
        picture = Picture.of((2, 1), [[(0, 0), (2, 1)], [(3, 1), (0, 0)]])
        sheet = palette.indexed(picture)
        self.assertEqual(sheet, Sheet(3, [[1, 2], [0, 1]]))
        self.assertEqual(palette.painted(sheet), picture)

    def test_the_first_colour_in_row_order_that_is_not_there(self):
        palette = Palette([(0,), (1,)], (4,))
        rows = [[(0,), (1,), (0,)], [(1,), (9,), (8,)], [(7,), (0,), (0,)]]
        with self.assertRaises(NoColour) as caught:
            palette.indexed(Picture.of((4,), rows))
        self.assertEqual(caught.exception.colour, (9,))
        with self.assertRaises(NoColour) as caught:
            palette.indexed(Picture.of((4,), [[(0,), (0,), (5,)], [(4,), (0,), (0,)]]))
        self.assertEqual(caught.exception.colour, (5,))

    def test_the_depths_must_be_those_of_the_palette(self):
        palette = Palette([(0, 0), (1, 1)], (2, 1))
        for depths in ((1, 2), (2, 2), (1, 1), (2, 1, 1), (2,)):
            rows = [[(0,) * len(depths), (1,) * len(depths)]]
            with self.assertRaises(Unlike):
                palette.indexed(Picture.of(depths, rows))

    def test_unlike_comes_before_no_colour(self):
        with self.assertRaises(Unlike):
            Palette([(0,)], (1,)).indexed(Picture.of((2,), [[(3,)]]))

    def test_with_one_and_with_64_entries(self):
        single = Palette([(7,)], (4,))
        picture = Picture.of((4,), [[(7,)] * 40] * 40)
        self.assertEqual(single.indexed(picture), Sheet.even(1, 40, 40))
        self.assertEqual(single.painted(Sheet.even(1, 40, 40)), picture)
        full = Palette(numbers(100, 164), DEEP)
        picture = Picture.of(DEEP, [[(100 + 8 * y + x,) for x in range(8)] for y in range(8)])
        self.assertEqual(full.indexed(picture), Sheet(64, [list(range(8 * y, 8 * y + 8)) for y in range(8)]))
        self.assertEqual(full.painted(full.indexed(picture)), picture)


class PaintedTest(unittest.TestCase):
    def test_an_example(self):
        palette = Palette([(3, 1), (0, 0), (2, 1)], (2, 1))
        got = palette.painted(Sheet(3, [[2, 0, 1]]))
        self.assertEqual(got, Picture.of((2, 1), [[(2, 1), (3, 1), (0, 0)]]))
        self.assertIs(got.mask, False)
        got = palette.painted(Sheet(3, [[2, 0, 1]]), True)
        self.assertEqual(got, Picture.of((2, 1), [[(2, 1), (3, 1), (0, 0)]], True))
        self.assertIs(palette.painted(Sheet(3, [[0]]), mask=True).mask, True)

    def test_painting_the_index_sheet_gives_the_picture(self):
        chance = chances(19)
        for depths, mask in (((2,), False), ((2, 1), True), ((1, 1, 1, 1), True)):
            colours = [(a,) + (b,) * (len(depths) - 1) for a in range(2) for b in range(2)]
            colours = sorted(set(colours), key=lambda colour: chance.random())
            palette = Palette(colours, depths)
            rows = [[chance.choice(colours) for _ in range(7)] for _ in range(5)]
            picture = Picture.of(depths, rows, mask)
            sheet = palette.indexed(picture)
            self.assertEqual(sheet.modulus, len(palette))
            self.assertEqual(palette.painted(sheet, mask), picture)

    def test_the_modulus_must_be_the_number_of_entries(self):
        palette = Palette([(0,), (1,), (2,)], (2,))
        for modulus in (1, 2, 4, 64, 65536):
            with self.assertRaises(Unlike):
                palette.painted(Sheet.even(modulus, 2, 2))

    def test_masks_that_are_not_allowed(self):
        for depths in ((1,), (4,), (1, 2), (1, 1, 16)):
            palette = Palette([(0,) * len(depths)], depths)
            with self.assertRaises(BadPicture):
                palette.painted(Sheet.even(1, 2, 2), True)
            self.assertIs(palette.painted(Sheet.even(1, 2, 2)).mask, False)

    def test_unlike_comes_before_bad_picture(self):
        with self.assertRaises(Unlike):
            Palette([(0,)], (1,)).painted(Sheet.even(2, 2, 2), True)


class MergedTest(unittest.TestCase):
    def test_the_entries_that_only_the_other_one_has_come_behind(self):
        one, other = Palette([(3,), (0,)], (2,)), Palette([(2,), (0,), (1,), (3,)], (2,))
        self.assertEqual(one.merged(other), Palette([(3,), (0,), (2,), (1,)], (2,)))
        self.assertEqual(other.merged(one), other)
        self.assertEqual(one.merged(one), one)
        self.assertEqual((len(one), len(other)), (2, 4))

    def test_depths_must_be_equal(self):
        one = Palette([(0, 0)], (2, 1))
        for other in (Palette([(0, 0)], (1, 2)), Palette([(0, 0)], (2, 2)), Palette([(0,)], (2,)),
                      Palette([(0, 0, 0)], (2, 1, 1))):
            with self.assertRaises(Unlike):
                one.merged(other)
            with self.assertRaises(Unlike):
                other.merged(one)

    def test_64_entries_just_fit(self):
        merged = Palette(numbers(0, 40), DEEP).merged(Palette(numbers(10, 64), DEEP))
        self.assertEqual(merged, Palette(numbers(0, 64), DEEP))
        full = Palette(numbers(0, 64), DEEP)
        self.assertEqual(full.merged(full), full)

    def test_65_entries_are_too_many(self):
        cases = ((numbers(0, 40), numbers(10, 65), 65), (numbers(0, 64), numbers(64, 65), 65),
                 (numbers(0, 1), numbers(1, 65), 65), (numbers(0, 64), numbers(64, 128), 128))
        for mine, its, number in cases:
            with self.assertRaises(TooMany) as caught:
                Palette(mine, DEEP).merged(Palette(its, DEEP))
            self.assertEqual(caught.exception.number, number)

    def test_unlike_comes_before_too_many(self):
        with self.assertRaises(Unlike):
            Palette(numbers(0, 64), DEEP).merged(Palette(numbers(64, 128), (15,)))


class ShiftedTest(unittest.TestCase):
    def test_an_example(self):
        palette = Palette([(3, 1), (0, 0), (2, 1)], (2, 1))
        self.assertEqual(palette.shifted(0, 1), Palette([(0, 1), (1, 0), (3, 1)], (2, 1)))
        self.assertEqual(palette.shifted(0, -1), Palette([(2, 1), (3, 0), (1, 1)], (2, 1)))
        self.assertEqual(palette.shifted(1, 1), Palette([(3, 0), (0, 1), (2, 0)], (2, 1)))
        self.assertEqual(palette.shifted(0, 0), palette)
        self.assertEqual(palette.entries, ((3, 1), (0, 0), (2, 1)))

    def test_modulo_the_size_of_the_plane(self):
        for depth in (1, 2, 8, 16):
            top = 2 ** depth - 1
            palette = Palette([(0, 0), (0, top)], (16, depth))
            for amount in (65535, -65535, 1, -1, 2 ** depth - 1):
                wanted = ((0, amount % (top + 1)), (0, (top + amount) % (top + 1)))
                self.assertEqual(palette.shifted(1, amount).entries, wanted)
                self.assertEqual(palette.shifted(1, amount).depths, (16, depth))
                self.assertEqual(palette.shifted(1, amount).shifted(1, -amount), palette)

    def test_all_64_entries(self):
        self.assertEqual(Palette(numbers(0, 64), (6,)).shifted(0, 3), Palette(numbers(3, 64) + numbers(0, 3), (6,)))


class SharingTest(unittest.TestCase):
    def test_the_colours_that_were_passed_stay_and_are_not_kept(self):
        colours = [(1,), (0,)]
        palette = Palette(colours, (2,))
        self.assertEqual(colours, [(1,), (0,)])
        colours[0] = (3,)
        colours.append((2,))
        self.assertEqual(palette.entries, ((1,), (0,)))
        self.assertEqual((len(palette), palette[0], palette.index((1,))), (2, (1,), 0))
        self.assertNotIn((3,), palette)
        self.assertNotIn((2,), palette)

    def test_a_refused_list_stays(self):
        colours = [(1,), (1,)]
        with self.assertRaises(BadPalette):
            Palette(colours, (2,))
        self.assertEqual(colours, [(1,), (1,)])

    def test_a_list_of_the_entries_is_not_kept(self):
        palette = Palette([(1,), (0,)], (2,))
        entries = list(palette)
        entries.append((2,))
        self.assertEqual(list(palette), [(1,), (0,)])


if __name__ == "__main__":
    unittest.main()
