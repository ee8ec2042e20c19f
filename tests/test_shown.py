"""Point 84: sample values and restored pictures."""

import unittest
from itertools import permutations, product

from keptpictures.errors import Clash, NoCell, TooLarge
from keptpictures.files.plan import even_plan
from keptpictures.files.whole import chunks_of
from keptpictures.files.writer import write_file
from keptpictures.hurts.fitting import fits
from keptpictures.hurts.remains import salvage
from keptpictures.knowledge.facts import known
from keptpictures.knowledge.shown import restored, sample_values
from keptpictures.palettes.palette import Palette
from keptpictures.pictures.picture import Picture
from tests.files_by_hand import bytes_of, packed_by_hand
from tests.helpers import are_plain_integers, chances, some_picture
from tests.test_fitting import bodies_of
from tests.torn_files import some_remains, torn_case, without

HEAD, DATA = (0, (2, 1, 1, 0, 1, 0, 0, 0)), (2, (0, 0, 1, 0, 4))
CLASH = (2, (0, 0, 1, 0, 0))


def pictures_of(remains):
    """Return the rows of colours of all pictures that have a file with everything that is left."""
    head = remains.head
    bodies = [body for body in bodies_of(head.width, head.height, head.moduli) if fits(remains, body)]
    if not head.colours:
        return [Picture(body, head.mask).rows for body in bodies]
    palettes = [remains.palette]
    if remains.palette is None:
        colours = list(product(*[range(2 ** depth) for depth in head.depths]))
        palettes = [Palette(chosen, head.depths) for chosen in permutations(colours, head.colours)]
    return [palette.painted(body[0], head.mask).rows for body in bodies for palette in palettes]


class SampleValuesTest(unittest.TestCase):
    def test_all_pictures_that_fit(self):
        chance = chances(1)
        seen = {"plain": 0, "coloured": 0, "lost": 0, "clash": 0}
        for _ in range(150):
            remains = some_remains(chance)
            head = remains.head
            try:
                known(remains)
            except Clash:
                seen["clash"] += 1
                continue
            if head.colours > 4:
                continue
            seen["plain" if not head.colours else "lost" if remains.palette is None else "coloured"] += 1
            pictures = pictures_of(remains)
            for y, x, plane in product(range(head.height), range(head.width), range(len(head.depths))):
                told = sample_values(remains, x, y, plane)
                self.assertIs(type(told), list)
                if remains.palette is None and head.colours:
                    # Every palette of so many colours is possible; where all colours are there, too.
                    self.assertEqual(told, list(range(2 ** head.depths[plane])))
                self.assertEqual(told, sorted({rows[y][x][plane] for rows in pictures}))
        self.assertGreater(min(seen["plain"], seen["coloured"], seen["lost"]), 10)

    def test_a_plain_file(self):
        remains = salvage(bytes_of([(0, (1, 2, 2, 0, 2, 1, 0, 0, 2)),
                                    (3, (0,) + packed_by_hand("10" "1" "00" "1"))]))
        # a + b is 2 and a + 2 * b is 0 modulo 4; modulo 2 the second spare tells the first sample.
        self.assertEqual([sample_values(remains, 0, y, 0) for y in (0, 1)], [[0], [2]])
        self.assertEqual([sample_values(remains, 0, y, 1) for y in (0, 1)], [[1], [0]])
        remains = salvage(bytes_of([(0, (1, 3, 1, 0, 2, 0, 0, 2)), (3, (0,) + packed_by_hand("10" "00"))]))
        # The second sample and twice the third one are 2.
        self.assertEqual([sample_values(remains=remains, x=0, y=y, plane=0) for y in (0, 1, 2)],
                         [[0, 1, 2, 3], [0, 2], [0, 1, 2, 3]])

    def test_a_coloured_file(self):
        picture = Picture.of((2, 2), [[(0, 1), (3, 1)], [(2, 1), (3, 0)]])
        palette = ((0, 1), (3, 1), (2, 1), (3, 0))
        chunks = list(chunks_of(write_file(picture, even_plan(picture, palette=palette, spares=1, most=1))))
        remains = salvage(without(chunks, [2, 4]))
        self.assertEqual([sample_values(remains, 0, 0, plane) for plane in (0, 1)], [[0, 2, 3], [0, 1]])
        self.assertEqual([sample_values(remains, 1, 1, plane) for plane in (0, 1)], [[3], [0]])
        lost = salvage(without(chunks, [1]))
        self.assertEqual([sample_values(lost, 1, 1, plane) for plane in (0, 1)], [[0, 1, 2, 3]] * 2)
        given = salvage(without(chunks, [1]), palette=Palette(palette, (2, 2)))
        self.assertEqual([sample_values(given, 1, 1, plane) for plane in (0, 1)], [[3], [0]])

    def test_colours_whose_numbers_are_not_all_possible(self):
        # Four colours; a spare says that twice the index is 2.
        picture = Picture.of((2,), [[(3,)], [(3,)]])
        chunks = list(chunks_of(write_file(picture, even_plan(picture, palette=((2,), (3,), (0,), (1,)), kind=2))))
        chunks[2] = (2, (0, 1, 1, 4) + packed_by_hand("010" + "00"))
        remains = salvage(bytes_of(chunks[:-1] + [(3, (0, 1))]))
        self.assertEqual(sample_values(remains, 0, 0, 0), [0, 1, 2, 3])
        # Now the spares of one pass, two rows with equal indices: their sum is 2 modulo 4, so the index is odd.
        spared = (0, (1, 2, 1, 0, 2, 4, 0, 1))
        remains = salvage(bytes_of([spared, chunks[1], chunks[2], (3, (0,) + packed_by_hand("10"))]))
        self.assertEqual(sample_values(remains, 0, 0, 0), [1, 3])

    def test_great_depths(self):
        remains = salvage(bytes_of([(0, (1, 1, 1, 0, 16, 0, 0, 0))]))
        self.assertEqual(sample_values(remains, 0, 0, 0), list(range(65536)))
        remains = salvage(bytes_of([(0, (1, 1, 2, 0, 1, 16, 1, 0, 0))]))
        self.assertEqual(sample_values(remains, 0, 0, 1), list(range(65536)))

    def test_lists_are_not_kept(self):
        for head in ((0, (1, 1, 1, 0, 2, 0, 0, 0)), (0, (1, 1, 1, 0, 2, 3, 0, 0))):
            remains = salvage(bytes_of([head]))
            sample_values(remains=remains, x=0, y=0, plane=0).clear()
            self.assertEqual(sample_values(remains, 0, 0, 0), [0, 1, 2, 3])

    def test_the_errors_in_their_order(self):
        large = salvage(bytes_of([(0, (40, 2, 1, 0, 1, 0, 0, 0))]))
        clash = salvage(bytes_of([HEAD, DATA, CLASH]))
        for remains in (large, clash):
            for x, y in ((40, 0), (0, 2), (-1, 0), (0, -1), (2, 40)):
                with self.assertRaises(NoCell) as caught:
                    sample_values(remains, x, y, 0)
                self.assertEqual((caught.exception.x, caught.exception.y), (x, y))
        with self.assertRaises(TooLarge):
            sample_values(large, 0, 0, 0)
        with self.assertRaises(Clash) as caught:
            sample_values(clash, 0, 0, 0)
        self.assertEqual(caught.exception.sheet, 0)

    def test_the_errors_where_the_palette_is_lost(self):
        head = (0, (2, 1, 1, 0, 1, 2, 0, 0))
        with self.assertRaises(Clash):
            sample_values(salvage(bytes_of([head, DATA, CLASH])), 0, 0, 0)
        with self.assertRaises(TooLarge):
            sample_values(salvage(bytes_of([(0, (13, 5, 1, 0, 1, 2, 0, 0))])), 0, 0, 0)
        with self.assertRaises(NoCell):
            sample_values(salvage(bytes_of([(0, (13, 5, 1, 0, 1, 2, 0, 0))])), 13, 0, 0)


class RestoredTest(unittest.TestCase):
    def test_all_pictures_that_fit(self):
        chance = chances(2)
        seen = {True: 0, False: 0}
        for _ in range(150):
            remains = some_remains(chance)
            if remains.head.colours > 4:
                continue
            try:
                told = restored(remains)
            except Clash:
                with self.assertRaises(Clash):
                    known(remains)
                continue
            pictures = pictures_of(remains)
            lost = remains.head.colours > 0 and remains.palette is None
            seen[told is not None] += 1
            if len(pictures) > 1 or lost:
                self.assertIsNone(told)
            else:
                self.assertEqual((told.rows, told.mask), (pictures[0], remains.head.mask))
        self.assertGreater(min(seen.values()), 20)

    def test_whole_files(self):
        chance = chances(3)
        for coloured in (False, True):
            for mask in (False, True):
                picture, _, _, data = torn_case(chance, 5, 4, (3, 1), mask, coloured, "da", 1)
                self.assertEqual(restored(salvage(data)), picture)
                self.assertIs(restored(remains=salvage(data)).mask, mask)
                self.assertTrue(are_plain_integers(restored(salvage(data)).rows))

    def test_a_row_from_the_spares(self):
        picture = some_picture(chances(4), 8, 8, (5, 1, 2))
        chunks = list(chunks_of(write_file(picture, even_plan(picture, spares=1, most=3, kind=1))))
        for k in range(1, 9):
            self.assertEqual(restored(salvage(without(chunks, [k]))), picture)
        self.assertIsNone(restored(salvage(without(chunks, [3, 9]))))

    def test_a_lost_palette(self):
        picture = Picture.of((1,), [[(1,), (1,)]])
        chunks = list(chunks_of(write_file(picture, even_plan(picture, palette=((1,),)))))
        self.assertEqual(restored(salvage(bytes_of(chunks))), picture)
        lost = without(chunks, [1])
        self.assertEqual(known(salvage(lost)).count(), 1)
        self.assertIsNone(restored(salvage(lost)))
        self.assertEqual(restored(salvage(lost, palette=Palette([(0,)], (1,)))), Picture.of((1,), [[(0,), (0,)]]))

    def test_errors(self):
        with self.assertRaises(Clash):
            restored(salvage(bytes_of([HEAD, DATA, CLASH])))
        with self.assertRaises(Clash):
            restored(salvage(bytes_of([(0, (2, 1, 1, 0, 1, 2, 0, 0)), DATA, CLASH])))
        for colours in (0, 2):
            with self.assertRaises(TooLarge):
                restored(salvage(bytes_of([(0, (40, 40, 1, 0, 1, colours, 0, 0))])))


if __name__ == "__main__":
    unittest.main()
