"""Points 53 to 59 and 66: pictures and plans, written as files."""

import unittest

from keptpictures.errors import BadPalette, BadPlan, KeepError, NoColour
from keptpictures.files.plan import Plan, even_plan
from keptpictures.files.whole import read_file, read_plan
from keptpictures.files.writer import write_file
from keptpictures.pictures.picture import Picture
from tests.chunks_by_hand import chunk_by_hand
from tests.codes_by_hand import binary
from tests.files_by_hand import (OWN_TABLES, bytes_of, file_by_hand, packed_by_hand, some_chunks, some_code,
                                 width_by_hand)
from tests.helpers import are_plain_integers, chances, some_colour, some_picture

EXAMPLE = (128, 2, 1, 1, 0, 1, 0, 0, 0, 8, 11, 87, 130, 0, 0, 1, 0, 4, 5, 2, 6, 132, 0, 4, 8)


def some_case(chance, greatest=6):
    """Return a small picture and a plan that fits it."""
    depths = tuple(chance.randint(1, 5) for _ in range(chance.randint(1, 4)))
    mask = len(depths) > 1 and chance.random() < 0.4
    if mask:
        depths = depths[:-1] + (1,)
    picture = some_picture(chance, chance.randint(1, greatest), chance.randint(1, greatest), depths, mask)
    palette = None
    if chance.random() < 0.5:
        colours = picture.colour_list()
        colours += [colour for colour in {some_colour(chance, depths) for _ in range(3)} if colour not in colours]
        chance.shuffle(colours)
        palette = tuple(colours) if len(colours) <= 64 else None
    word = "".join(chance.choice("ad") for _ in range(chance.choice((0, 0, 1, 2, 6))))
    chunks = some_chunks(chance, picture, palette, word)
    return picture, Plan(palette, word=word, spares=chance.randint(0, 3), chunks=chunks)


class WriteTest(unittest.TestCase):
    def test_the_example_of_the_document(self):
        picture = Picture.of((1,), [[(0,), (1,)]])
        told = write_file(picture, even_plan(picture))
        self.assertEqual(told, EXAMPLE)
        self.assertIs(type(told), tuple)
        self.assertEqual(write_file(picture=picture, plan=even_plan(picture)), EXAMPLE)

    def test_a_coloured_file(self):
        picture = Picture.of((2, 3), [[(3, 7)], [(0, 1)], [(3, 7)]])
        plan = even_plan(picture, palette=((1, 1), (0, 1), (3, 7)), code=4, kind=2)
        # Preset 4 for the modulus 3 is one rung of width 2, so a lane of one number has two bits.
        # The numbers are 2, then 1 - 2 = 2 and 2 - 1 = 1 modulo 3, folded to 1, 1 and 2.
        chunks = [(0, (1, 3, 2, 0, 2, 3, 3, 0, 0)),
                  (1, packed_by_hand("01001" + "00001" + "11111")),
                  (2, (0, 0, 3, 4) + packed_by_hand("010" + "01" + "010" + "01" + "010" + "10")),
                  (4, ())]
        self.assertEqual(write_file(picture, plan), bytes_of(chunks))

    def test_a_mask_is_written(self):
        picture = Picture.of((1, 1), [[(0, 1)]], True)
        self.assertEqual(write_file(picture, even_plan(picture))[1:9], (1, 1, 2, 1, 1, 1, 0, 0))

    def test_spares_stand_behind_each_pass(self):
        picture = Picture.of((3,), [[(1,), (5,), (2,)], [(4,), (7,), (6,)]])
        data = write_file(picture, even_plan(picture, word="a", spares=2, code=6))
        spares = chunk_by_hand(3, (0,) + packed_by_hand("101" + "000" + "001" + "110"))
        self.assertEqual(data.count(131), 2)
        at = data.index(131)
        self.assertEqual(data[at:at + len(spares)], spares)
        last = chunk_by_hand(3, (1,) + packed_by_hand(binary(12 % 8, 3) + binary(19 % 8, 3)))
        self.assertEqual(data[-4 - len(last):-4], last)

    def test_passes_without_tracks_have_no_chunks(self):
        picture = Picture.of((1,), [[(1,)]])
        data = write_file(picture, even_plan(picture, word="adadad", spares=3))
        self.assertEqual([byte for byte in data if byte >= 128], [128, 130, 131, 132])

    def test_lanes_beyond_127(self):
        picture = some_picture(chances(5), 1, 40, (1, 1, 1, 1))
        data = write_file(picture, even_plan(picture, most=64))
        fronts = [data[at + 1:at + 5] for at in range(len(data)) if data[at] == 130]
        self.assertEqual(fronts, [(0, 0, 64, 0), (0, 64, 64, 0), (1, 0, 32, 0)])
        counts = (27, 100, 1, 1, 31)
        plan = Plan(chunks=[(count, 0, (0,) * count) for count in counts])
        data = write_file(picture, plan)
        fronts = [data[at + 1:at + 4] for at in range(len(data)) if data[at] == 130]
        self.assertEqual(fronts, [(0, 0, 27), (0, 27, 100), (0, 127, 1), (1, 0, 1), (1, 1, 31)])
        self.assertTrue(read_plan(data) == plan)
        self.assertTrue(read_file(data) == picture)

    def test_the_least_tokens_are_written(self):
        picture = Picture.of((1,), [[(0,)] * 9])
        data = write_file(picture, even_plan(picture, code=1))
        # The codeword 11 of the repeat and 7 for eight numbers, then the literal 0.
        self.assertEqual(data[data.index(130) + 5:-7], packed_by_hand("000" + "11111" + "0"))

    def test_chosen_pictures_and_plans(self):
        chance = chances(59)
        for _ in range(150):
            picture, plan = some_case(chance)
            data = write_file(picture, plan)
            self.assertEqual(data, bytes_of(file_by_hand(picture, plan)))
            self.assertTrue(are_plain_integers(data))

    def test_all_presets(self):
        chance = chances(591)
        for depth in (1, 2, 3, 6):
            picture = some_picture(chance, 5, 2, (depth, 1))
            for code in range(2 * depth + 2):
                plan = even_plan(picture, code=code, kind=code % 8)
                self.assertEqual(write_file(picture, plan), bytes_of(file_by_hand(picture, plan)))

    def test_moduli_from_1_to_64(self):
        chance = chances(592)
        for many in (1, 2, 3, 31, 32, 33, 63, 64):
            colours = tuple((number, 63 - number) for number in range(many))
            rows = [[chance.choice(colours) for _ in range(4)] for _ in range(2)]
            picture = Picture.of((6, 6), rows)
            code = some_code(chance, many)
            plan = even_plan(picture, palette=colours, code=code, spares=1)
            self.assertEqual(write_file(picture, plan), bytes_of(file_by_hand(picture, plan)))

    def test_sequences_stay_as_they_are(self):
        picture = Picture.of((1,), [[(0,), (1,)]])
        colours, chunks = [(0,), (1,)], [(1, 0, (0,))]
        plan = Plan(colours, chunks=chunks)
        data = write_file(picture, plan)
        self.assertEqual((colours, chunks), ([(0,), (1,)], [(1, 0, (0,))]))
        colours.append((5,))
        chunks.append(3)
        self.assertEqual(write_file(picture, plan), data)


class RefusedTest(unittest.TestCase):
    def setUp(self):
        self.picture = Picture.of((2, 1), [[(3, 1), (0, 0)], [(3, 1), (1, 0)], [(0, 0), (1, 0)]])

    def refused(self, error, worth, palette=None, picture=None, **parts):
        with self.assertRaises(error) as caught:
            write_file(picture or self.picture, Plan(palette, **parts))
        self.assertIsInstance(caught.exception, KeepError)
        self.assertEqual(caught.exception.colour if error is NoColour else caught.exception.place, worth)

    def whole(self, *chunks):
        """Return chunks with these ones ahead, and behind them the other lanes of the picture, which has six."""
        left = 6 - sum(chunk[0] for chunk in chunks)
        return list(chunks) + [(left, 0, (0,) * left)] * (left > 0)

    def test_words(self):
        for word in ("b", "az", "aaaaaaa", "adadadadad"):
            self.refused(BadPlan, -1, word=word, chunks=self.whole())

    def test_spares(self):
        for spares in (-1000, -1, 4, 1000):
            self.refused(BadPlan, -1, spares=spares, chunks=self.whole())

    def test_palettes(self):
        chunks = ((3, 0, (0,) * 3),)
        self.refused(BadPalette, 0, palette=(), chunks=chunks)
        self.refused(BadPalette, 1, palette=((3, 1), (4, 0)), chunks=chunks)
        self.refused(BadPalette, 2, palette=((3, 1), (0, 0), (3, 1)), chunks=chunks)
        self.refused(BadPalette, 0, palette=((3,),), chunks=chunks)
        self.refused(BadPalette, 0, palette=((-1, 100000),), chunks=chunks)
        wide = Picture.of((7,), [[(0,)]])
        self.refused(BadPalette, 64, palette=[(number,) for number in range(65)], picture=wide, chunks=[(1, 0, (0,))])

    def test_colours_that_the_palette_does_not_have(self):
        self.refused(NoColour, (0, 0), palette=((3, 1), (1, 0)), chunks=((3, 0, (0,) * 3),))
        self.refused(NoColour, (3, 1), palette=((2, 1),), chunks=())

    def test_counts(self):
        for count in (-1000, -1, 0, 7, 101, 1000):
            self.refused(BadPlan, 0, chunks=[(count, 0, (0,) * max(count, 0))])
        self.refused(BadPlan, 1, chunks=[(4, 0, (0,) * 4), (3, 0, (0,) * 3)])
        self.refused(BadPlan, 1, chunks=[(4, 0, (0,) * 4), (0, 0, ())])

    def test_at_most_100_lanes(self):
        tall = some_picture(chances(1), 1, 40, (1, 1, 1, 1))
        self.refused(BadPlan, 0, picture=tall, chunks=[(101, 0, (0,) * 101), (59, 0, (0,) * 59)])
        chunks = [(100, 0, (0,) * 100), (60, 0, (0,) * 60)]
        self.assertEqual(write_file(tall, Plan(chunks=chunks)).count(130), 2)

    def test_chunks_do_not_go_beyond_their_pass(self):
        # The word "d" has the lanes 0 to 3 in pass 0 and 4 and 5 in pass 1.
        self.refused(BadPlan, 0, word="d", chunks=[(5, 0, (0,) * 5), (1, 0, (0,))])
        self.refused(BadPlan, 1, word="d", chunks=[(3, 0, (0,) * 3), (2, 0, (0,) * 2), (1, 0, (0,))])
        chunks = [(4, 0, (0,) * 4), (2, 0, (0,) * 2)]
        self.assertEqual(write_file(self.picture, Plan(word="d", chunks=chunks)).count(130), 2)

    def test_presets(self):
        # The greatest modulus is 4, so the presets are 0 to 5.
        for code in (-1000, -1, 6, 7, 63, 64, 65, 1000):
            self.refused(BadPlan, 0, chunks=self.whole((2, code, (0, 0))))
            self.refused(BadPlan, 1, chunks=self.whole((1, 5, (0,)), (2, code, (0, 0))))

    def test_presets_of_all_widths(self):
        for depth in (1, 2, 3, 8, 15, 16):
            picture = Picture.of((1, depth), [[(0, 1)]])
            last = 2 * depth + 1
            self.refused(BadPlan, 0, picture=picture, chunks=[(2, last + 1, (0, 0))])
            self.assertEqual(write_file(picture, Plan(chunks=[(2, last, (0, 0))])).count(130), 1)
        for many in (1, 2, 3, 4, 5, 64):
            picture = Picture.of((6,), [[(0,)]])
            palette = [(number,) for number in range(many)]
            last = 2 * width_by_hand(many) + 1
            self.refused(BadPlan, 0, palette=palette, picture=picture, chunks=[(1, last + 1, (0,))])
            self.assertEqual(write_file(picture, Plan(palette, chunks=[(1, last, (0,))])).count(130), 1)

    def test_own_tables(self):
        wrong = (((), None), (((0, 1),), None), (((1, 2), (1, 0)), None), (((1, 0), (1, 17)), None),
                 (((0, 2), (0, 2)), None), (((1, 2),), None), (((1, 2),), (1, 6)), (((1, 2),), (2, 3)),
                 (((1, 2),), (1, -1)), (((-1, 2), (1, 1)), None), (((100, -100),), None), (((2, 0),) * 20, (9, 9)),
                 (((1, 2), (2, 2), (2, 0)), None))
        for code in wrong:
            self.refused(BadPlan, 0, chunks=self.whole((2, code, (0, 0))))
            self.refused(BadPlan, 1, chunks=self.whole((2, 0, (0, 0)), (2, code, (0, 0))))
        right = ((((0, 2),), None), (((0, 16),), None), (((1, 2),), (1, 5)), (((1, 1), (1, 1)), None), OWN_TABLES[3],
                 (((2, 0), (2, 0), (2, 0), (2, 0)), None))
        for code in right:
            plan = Plan(chunks=self.whole((2, code, (0, 0))))
            self.assertEqual(write_file(self.picture, plan), bytes_of(file_by_hand(self.picture, plan)))

    def test_filters(self):
        for filters in ((), (0,), (0, 0, 0), (0, 8), (-1, 0), (7, 1000)):
            self.refused(BadPlan, 0, chunks=self.whole((2, 0, filters)))
            self.refused(BadPlan, 2, chunks=self.whole((1, 0, (0,)), (1, 0, (7,)), (2, 0, filters)))

    def test_lanes_that_are_left(self):
        self.refused(BadPlan, 0, chunks=())
        self.refused(BadPlan, 1, chunks=[(5, 0, (0,) * 5)])
        self.refused(BadPlan, 3, chunks=[(1, 0, (0,)), (1, 0, (0,)), (3, 0, (0,) * 3)])

    def test_chunks_for_which_no_lane_is_left(self):
        self.refused(BadPlan, 1, chunks=[(6, 0, (0,) * 6), (1, 0, (0,))])
        self.refused(BadPlan, 1, chunks=[(6, 0, (0,) * 6), (0, 0, ())])
        self.refused(BadPlan, 2, chunks=[(3, 0, (0,) * 3)] * 4)

    def test_several_faults(self):
        wrong = [(9, 99, (9,))]
        self.refused(BadPlan, -1, palette=((9, 9),), word="z", spares=9, chunks=wrong)
        self.refused(BadPlan, -1, palette=((9, 9),), spares=4, chunks=wrong)
        self.refused(BadPlan, -1, palette=((2, 0),), word="q", chunks=wrong)
        self.refused(BadPalette, 1, palette=((2, 0), (9, 9)), chunks=wrong)
        self.refused(NoColour, (3, 1), palette=((2, 0),), chunks=wrong)
        self.refused(BadPlan, 0, palette=((3, 1), (0, 0), (1, 0)), chunks=wrong)
        self.refused(BadPlan, 1, chunks=[(1, 0, (0,)), (1, 99, (0,)), (9, 0, (0,))])
        self.refused(BadPlan, 1, chunks=[(1, 0, (0,)), (1, 0, (9,))])


if __name__ == "__main__":
    unittest.main()
