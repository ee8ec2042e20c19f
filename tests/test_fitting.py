"""Points 70 and 71: bodies that fit remains, and their whole files."""

import unittest
from itertools import product

from keptpictures.errors import KeepError, Unlike
from keptpictures.files.bodies import body_of
from keptpictures.files.head import Head
from keptpictures.files.plan import Plan, even_plan
from keptpictures.files.whole import chunks_of, first_wrong, read_file, read_plan
from keptpictures.files.writer import write_file
from keptpictures.hurts.fitting import fits, whole_file
from keptpictures.hurts.remains import salvage
from keptpictures.palettes.palette import Palette
from keptpictures.pictures.picture import Picture
from keptpictures.sheets.sheet import Sheet
from tests.files_by_hand import bytes_of, file_by_hand, packed_by_hand
from tests.helpers import chances, some_picture, some_sheet
from tests.remains_by_hand import fits_by_hand, whole_by_hand
from tests.test_writer import EXAMPLE, some_case

HEAD, DATA, END = (0, (2, 1, 1, 0, 1, 0, 0, 0)), (2, (0, 0, 1, 0, 4)), (4, ())


def bodies_of(width, height, moduli):
    """Return all bodies of a small size."""
    found = [()]
    for modulus in moduli:
        grids = product(range(modulus), repeat=width * height)
        sheets = [Sheet(modulus, [grid[y * width:(y + 1) * width] for y in range(height)]) for grid in grids]
        found = [body + (sheet,) for body in found for sheet in sheets]
    return found


def rows_of(body):
    return [sheet.rows for sheet in body]


class FitsTest(unittest.TestCase):
    def test_a_data_piece(self):
        remains = salvage(EXAMPLE)
        self.assertIs(fits(remains, (Sheet(2, [[0, 1]]),)), True)
        for row in ([0, 0], [1, 0], [1, 1]):
            self.assertIs(fits(remains, (Sheet(2, [row]),)), False)
        self.assertIs(fits(remains=remains, body=(Sheet(2, [[0, 1]]),)), True)

    def test_without_pieces_all_bodies_fit(self):
        remains = salvage(bytes_of([HEAD]))
        for body in bodies_of(2, 1, (2,)):
            self.assertIs(fits(remains, body), True)

    def test_a_spare_piece(self):
        # Two rows and two spares: the sum, and the sum with the second row twice.
        head = (0, (1, 2, 1, 0, 2, 0, 0, 2))
        remains = salvage(bytes_of([head, (3, (0,) + packed_by_hand("11" + "01"))]))
        found = [body[0].rows for body in bodies_of(1, 2, (4,)) if fits(remains, body)]
        self.assertEqual(found, [((1,), (2,))])

    def test_bodies_of_other_sizes_and_moduli(self):
        remains = salvage(bytes_of([HEAD]))
        for body in ((Sheet(2, [[0]]),), (Sheet(2, [[0, 1, 0]]),), (Sheet(2, [[0, 1]] * 2),), (Sheet(3, [[0, 1]]),),
                     (Sheet(4, [[0, 1]]),), (Sheet(2, [[0, 1]]),) * 2):
            self.assertIs(fits(remains, body), False)
        two = salvage(bytes_of([(0, (2, 1, 2, 0, 1, 2, 0, 0, 0))]))
        self.assertIs(fits(two, (Sheet(2, [[0, 1]]), Sheet(4, [[0, 3]]))), True)
        self.assertIs(fits(two, (Sheet(4, [[0, 3]]), Sheet(2, [[0, 1]]))), False)
        self.assertIs(fits(two, (Sheet(2, [[0, 1]]),)), False)
        self.assertIs(fits(two, (Sheet(2, [[0, 1]]), Sheet(4, [[0]]))), False)

    def test_pieces_that_contradict_each_other(self):
        remains = salvage(bytes_of([HEAD, DATA, (2, (0, 0, 1, 0, 0))]))
        self.assertEqual([body for body in bodies_of(2, 1, (2,)) if fits(remains, body)], [])

    def test_a_filter_that_looks_at_other_lanes(self):
        # The row below is as the row above, whatever that is: filter 2 and two times 0.
        remains = salvage(bytes_of([(0, (2, 2, 1, 0, 1, 0, 0, 0)), (2, (0, 1, 1, 0, 0b0100000))]))
        found = [body[0].rows for body in bodies_of(2, 2, (2,)) if fits(remains, body)]
        self.assertEqual(found, [(row, row) for row in ((0, 0), (0, 1), (1, 0), (1, 1))])

    def test_all_bodies_of_small_files(self):
        chance = chances(70)
        for _ in range(60):
            depths = chance.choice(((1,), (1, 1), (2,)))
            width, height = chance.choice(((2, 2), (1, 3), (3, 1), (2, 1), (1, 1)))
            picture = some_picture(chance, width, height, depths)
            palette = chance.choice((None, tuple(picture.colour_list())))
            word = chance.choice(("", "a", "d", "ad"))
            plan = even_plan(picture, palette=palette, word=word, spares=chance.randint(0, 3),
                             kind=chance.randint(0, 7), most=chance.choice((1, 2, 100)))
            chunks = file_by_hand(picture, plan, chance)
            kept = chunks[:1] + [chunk for chunk in chunks[1:] if chance.random() < 0.5]
            remains = salvage(bytes_of(kept))
            for body in bodies_of(width, height, remains.head.moduli):
                wanted = fits_by_hand(remains.head, remains.data, remains.spares, rows_of(body))
                self.assertIs(fits(remains, body), wanted)
                if wanted and not overlaps(remains):
                    self.assertTrue(contents_of(remains) <= set(chunks_of(whole_file(remains, body))))

    def test_the_body_of_the_picture_fits_whatever_is_lost(self):
        chance = chances(701)
        for _ in range(80):
            picture, plan = some_case(chance)
            palette = None if plan.palette is None else Palette(plan.palette, picture.depths)
            body = body_of(picture, palette)
            chunks = file_by_hand(picture, plan, chance)
            remains = salvage(bytes_of(chunks[:1] + [chunk for chunk in chunks[1:] if chance.random() < 0.6]))
            self.assertTrue(fits(remains, body))
            other = tuple(some_sheet(chance, sheet.modulus, sheet.width, sheet.height) for sheet in body)
            self.assertIs(fits(remains, other),
                          fits_by_hand(remains.head, remains.data, remains.spares, rows_of(other)))


def contents_of(remains):
    return {(2, content) for content in remains.data} | {(3, content) for content in remains.spares}


def overlaps(remains):
    """Tell whether two kept data pieces have a lane in common; all of them are of few lanes here."""
    lanes = [128 * content[0] + content[1] + place for content in remains.data for place in range(content[2])]
    return len(lanes) > len(set(lanes))


class WholeFileTest(unittest.TestCase):
    def test_nothing_is_missing(self):
        self.assertEqual(whole_file(salvage(EXAMPLE), (Sheet(2, [[0, 1]]),)), EXAMPLE)
        self.assertEqual(whole_file(remains=salvage(EXAMPLE), body=(Sheet(2, [[0, 1]]),)), EXAMPLE)
        self.assertIs(type(whole_file(salvage(EXAMPLE), (Sheet(2, [[0, 1]]),))), tuple)

    def test_all_data_is_missing(self):
        remains = salvage(bytes_of([HEAD]))
        for body in bodies_of(2, 1, (2,)):
            picture = Picture(body)
            self.assertEqual(whole_file(remains, body), write_file(picture, even_plan(picture)))

    def test_used_contents_stay_as_they_are(self):
        # The first lane with preset 3, filter 6 and tokens that are not the least ones; the second lane is lost.
        head = (0, (3, 2, 1, 0, 1, 0, 0, 0))
        kept = (2, (0, 0, 1, 1) + packed_by_hand("110" + "11000" * 3))
        remains = salvage(bytes_of([kept, head]))
        told = whole_file(remains, (Sheet(2, [[0, 0, 0], [1, 0, 1]]),))
        self.assertEqual(told, bytes_of([head, kept, (2, (0, 1, 1, 0) + packed_by_hand("000" + "101")), END]))

    def test_of_pieces_with_a_common_lane_the_first_is_used(self):
        head = (0, (1, 3, 1, 0, 1, 0, 0, 0))
        first = (2, (0, 1, 1, 0) + packed_by_hand("010" + "0"))
        both = (2, (0, 0, 2, 0) + packed_by_hand("0000" * 2))
        later = (2, (0, 2, 1, 0) + packed_by_hand("011" + "0"))
        body = (Sheet.even(2, 1, 3),)
        zero = (2, (0, 0, 1, 0, 0))
        self.assertEqual(whole_file(salvage(bytes_of([head, first, both, later, first])), body),
                         bytes_of([head, zero, first, later, END]))
        self.assertEqual(whole_file(salvage(bytes_of([head, later, both, first])), body),
                         bytes_of([head, both, later, END]))

    def test_a_piece_that_is_not_used_does_not_keep_others_out(self):
        head = (0, (1, 4, 1, 0, 1, 0, 0, 0))
        middle = (2, (0, 1, 2, 0) + packed_by_hand("0000" * 2))
        front = (2, (0, 0, 2, 0) + packed_by_hand("0100" * 2))
        first = (2, (0, 0, 1, 0) + packed_by_hand("1100"))
        body = (Sheet.even(2, 1, 4),)
        self.assertEqual(whole_file(salvage(bytes_of([head, middle, front, first])), body),
                         bytes_of([head, first, middle, (2, (0, 3, 1, 0, 0)), END]))

    def test_stretches_end_with_their_pass(self):
        head = Head(2, 2, (1,), word="ad", spares=1)
        body = (Sheet(2, [[1, 0], [0, 1]]),)
        told = whole_file(salvage(bytes_of([(0, head.content())])), body)
        fronts = [content[:3] for kind, content in chunks_of(told) if kind == 2]
        self.assertEqual(fronts, [(0, 0, 1), (0, 1, 1), (0, 2, 1)])
        self.assertEqual([kind for kind, _ in chunks_of(told)], [0, 2, 3, 2, 3, 2, 3, 4])
        self.assertTrue(read_file(told) == Picture(body))

    def test_long_stretches_are_cut_from_their_first_lane(self):
        head = Head(1, 40, (1, 1, 1, 1))
        body = tuple(some_sheet(chances(71), 2, 1, 40) for _ in range(4))
        whole = whole_file(salvage(bytes_of([(0, head.content())])), body)
        self.assertEqual([content[:3] for kind, content in chunks_of(whole) if kind == 2], [(0, 0, 100), (0, 100, 60)])
        parts = [content for _, content in list(chunks_of(write_file(Picture(body), even_plan(Picture(body), most=5))))]
        kept = parts[3]
        self.assertEqual(kept[:3], (0, 10, 5))
        told = whole_file(salvage(bytes_of([(0, head.content()), (2, kept)])), body)
        self.assertEqual([content[:3] for kind, content in chunks_of(told) if kind == 2],
                         [(0, 0, 10), (0, 10, 5), (0, 15, 100), (0, 115, 45)])

    def test_the_palette_of_the_remains(self):
        head = (0, (2, 1, 1, 0, 2, 3, 0, 0))
        palette = (1, packed_by_hand("110001"))
        body = (Sheet(3, [[2, 0]]),)
        told = whole_file(salvage(bytes_of([head, palette])), body)
        self.assertTrue(read_file(told) == Picture.of((2,), [[(1,), (3,)]]))
        self.assertEqual(list(chunks_of(told))[1], palette)
        passed = salvage(bytes_of([head, palette]), palette=Palette([(1,), (2,), (3,)], (2,)))
        self.assertEqual(read_plan(whole_file(passed, body)).palette, ((1,), (2,), (3,)))

    def test_the_least_colours_for_a_lost_palette(self):
        for depths, many, colours in (((2,), 3, ((0,), (1,), (2,))),
                                      ((1, 2), 6, ((0, 0), (0, 1), (0, 2), (0, 3), (1, 0), (1, 1))),
                                      ((16,) * 4, 2, ((0, 0, 0, 0), (0, 0, 0, 1))), ((1,), 1, ((0,),)),
                                      ((3, 3), 64, tuple(product(range(8), repeat=2)))):
            head = Head(1, 1, depths, colours=many)
            told = whole_file(salvage(bytes_of([(0, head.content())])), (Sheet(many, [[many - 1]]),))
            self.assertEqual(read_plan(told).palette, colours)
            self.assertEqual(read_file(told).rows, ((colours[-1],),))

    def test_chosen_remains(self):
        chance = chances(710)
        for _ in range(100):
            picture, plan = some_case(chance)
            palette = None if plan.palette is None else Palette(plan.palette, picture.depths)
            body = body_of(picture, palette)
            chunks = file_by_hand(picture, plan, chance)
            # Another file of the same body, so that there are pieces with common lanes.
            others = file_by_hand(picture, even_plan(picture, palette=plan.palette, word=plan.word, spares=plan.spares,
                                                     kind=3, most=2))
            mixed = [chunk for chunk in chunks[1:] + others[1:] if chance.random() < 0.5]
            chance.shuffle(mixed)
            remains = salvage(bytes_of(chunks[:1] + mixed))
            told = whole_file(remains, body)
            colours = None if remains.palette is None else remains.palette.entries
            self.assertEqual(told, bytes_of(whole_by_hand(remains.head, colours, remains.data, rows_of(body))))
            self.assertIsNone(first_wrong(told))
            self.assertEqual(salvage(told).head.content(), chunks[0][1])
            self.assertTrue(set(remains.spares) <= {content for _, content in chunks_of(told)})

    def test_bodies_that_do_not_fit(self):
        remains = salvage(EXAMPLE)
        for body in ((Sheet(2, [[0, 0]]),), (Sheet(2, [[0]]),), (Sheet(4, [[0, 1]]),), (Sheet(2, [[0, 1]]),) * 2):
            with self.assertRaises(Unlike) as caught:
                whole_file(remains, body)
            self.assertIsInstance(caught.exception, KeepError)
        clashing = salvage(bytes_of([HEAD, DATA, (2, (0, 0, 1, 0, 0))]))
        for body in bodies_of(2, 1, (2,)):
            with self.assertRaises(Unlike):
                whole_file(clashing, body)
        spared = salvage(bytes_of([(0, (2, 1, 1, 0, 1, 0, 0, 1)), (3, (0, 96))]))
        with self.assertRaises(Unlike):
            whole_file(spared, (Sheet(2, [[0, 1]]),))
        self.assertIsNone(first_wrong(whole_file(spared, (Sheet(2, [[1, 1]]),))))

    def test_the_greatest_bodies(self):
        picture = some_picture(chances(711), 40, 40, (16,) * 4)
        plan = even_plan(picture, word="da", spares=3, code=26, kind=1, most=33)
        data = write_file(picture, plan)
        remains = salvage(data[:len(data) // 2] + data[len(data) // 2 + 300:])
        self.assertTrue(fits(remains, picture.planes))
        told = whole_file(remains, picture.planes)
        self.assertTrue(read_file(told) == picture)
        self.assertTrue(set(remains.data) <= {content for kind, content in chunks_of(told)})

    def test_the_remains_stay_as_they_are(self):
        remains = salvage(EXAMPLE)
        before = (remains.data, remains.spares, remains.report)
        body = [Sheet(2, [[0, 1]])]
        whole_file(remains, tuple(body))
        fits(remains, tuple(body))
        self.assertEqual((remains.data, remains.spares, remains.report), before)
        self.assertEqual(len(body), 1)

    def test_own_tables_are_used_as_they_are(self):
        picture = Picture.of((2,), [[(3,)], [(1,)], [(2,)]])
        plan = Plan(chunks=[(2, (((0, 9),), None), (7, 2)), (1, 0, (0,))])
        data = write_file(picture, plan)
        cut = data[:data.index(130, 20) if 130 in data[20:] else len(data)]
        told = whole_file(salvage(cut), picture.planes)
        self.assertEqual(read_plan(told).chunks[0], (2, (((0, 9),), None), (7, 2)))


if __name__ == "__main__":
    unittest.main()
