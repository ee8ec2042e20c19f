"""Points 27 and 56: bodies of pictures, and their spares."""

import unittest

from keptpictures.errors import NoColour, Unlike
from keptpictures.files.bodies import body_of, spare_rows
from keptpictures.palettes.palette import Palette
from keptpictures.pictures.picture import Picture
from keptpictures.sheets.sheet import Sheet
from tests.files_by_hand import spares_by_hand
from tests.helpers import are_plain_integers, chances, some_picture, some_sheet
from tests.passes_by_hand import tracks_by_hand


class BodyTest(unittest.TestCase):
    def test_the_planes_of_the_picture(self):
        picture = Picture.of((2, 1), [[(3, 1), (0, 0)]], True)
        body = body_of(picture)
        self.assertIs(type(body), tuple)
        self.assertEqual(body, (Sheet(4, [[3, 0]]), Sheet(2, [[1, 0]])))
        self.assertEqual(body_of(picture, None), body)
        self.assertEqual(body_of(picture=picture, palette=None), body)

    def test_the_index_sheet_alone(self):
        picture = Picture.of((2, 1), [[(3, 1), (0, 0), (3, 1)]])
        palette = Palette([(1, 1), (3, 1), (0, 0)], (2, 1))
        body = body_of(picture, palette)
        self.assertIs(type(body), tuple)
        self.assertEqual(body, (Sheet(3, [[1, 2, 1]]),))

    def test_errors_of_the_index_sheet(self):
        picture = Picture.of((2,), [[(3,), (0,), (1,)]])
        with self.assertRaises(Unlike):
            body_of(picture, Palette([(3,)], (3,)))
        with self.assertRaises(NoColour) as caught:
            body_of(picture, Palette([(3,)], (2,)))
        self.assertEqual(caught.exception.colour, (0,))


class SpareRowsTest(unittest.TestCase):
    def test_no_spares(self):
        self.assertEqual(spare_rows((Sheet(4, [[1, 2]]),), "", 0, 0), ())

    def test_spare_0_is_the_sum(self):
        body = (Sheet(10, [[1, 2], [3, 4], [9, 9]]),)
        self.assertEqual(spare_rows(body, "", 0, 1), ((3, 5),))

    def test_further_spares_are_weighted(self):
        body = (Sheet(100, [[1, 2], [3, 4], [9, 8]]),)
        # 1 + 2 * 3 + 3 * 9 and 2 + 2 * 4 + 3 * 8, then 1 + 4 * 3 + 9 * 9 and 2 + 4 * 4 + 9 * 8.
        self.assertEqual(spare_rows(body, "", 0, 3), ((13, 14), (34, 34), (94, 90)))

    def test_order_by_number_and_then_by_sheet(self):
        body = (Sheet(10, [[1], [2]]), Sheet(7, [[3], [6]]))
        self.assertEqual(spare_rows(body, "", 0, 2), ((3,), (2,), (5,), (1,)))

    def test_only_the_tracks_of_the_pass_count(self):
        body = (Sheet(50, [[1, 2, 3], [4, 5, 6], [7, 8, 9]]),)
        self.assertEqual(spare_rows(body, "a", 0, 1), ((12, 18),))
        self.assertEqual(spare_rows(body, "a", 1, 2), ((15,), (36,)))
        self.assertEqual(spare_rows(body, "d", 0, 2), ((8, 10, 12), (15, 18, 21)))
        self.assertEqual(spare_rows(body, "d", 1, 3), ((4, 5, 6), (4, 5, 6), (4, 5, 6)))
        self.assertEqual(spare_rows(body=body, word="d", number=1, spares=1), ((4, 5, 6),))

    def test_chosen_bodies(self):
        chance = chances(56)
        for _ in range(80):
            width, height = chance.randint(1, 12), chance.randint(1, 12)
            moduli = [chance.choice((1, 2, 3, 10, 64, 65536)) for _ in range(chance.randint(1, 4))]
            body = tuple(some_sheet(chance, modulus, width, height) for modulus in moduli)
            word = "".join(chance.choice("ad") for _ in range(chance.randint(0, 4)))
            rows = [sheet.rows for sheet in body]
            for number in {track[0] for track in tracks_by_hand(width, height, word)}:
                spares = chance.randint(0, 3)
                told = spare_rows(body, word, number, spares)
                self.assertEqual(told, spares_by_hand(rows, moduli, word, number, spares))
                self.assertTrue(are_plain_integers(told))

    def test_the_greatest_bodies(self):
        body = tuple(Sheet.even(65536, 40, 40, 65535) for _ in range(4))
        told = spare_rows(body, "", 0, 3)
        totals = [sum((k + 1) ** s for k in range(40)) * 65535 % 65536 for s in range(3)]
        self.assertEqual(told, tuple((totals[s],) * 40 for s in range(3) for _ in range(4)))

    def test_the_body_of_a_picture_has_its_spares(self):
        picture = some_picture(chances(561), 4, 4, (3, 5))
        self.assertEqual(len(spare_rows(body_of(picture), "ad", 2, 3)), 6)


if __name__ == "__main__":
    unittest.main()
