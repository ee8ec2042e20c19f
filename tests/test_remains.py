"""Points 67, 68 and 69: what is salvaged from byte texts of any kind."""

import unittest

from keptpictures.errors import BadField, KeepError, NoHead, Unlike
from keptpictures.files.head import Head
from keptpictures.files.plan import Plan, even_plan
from keptpictures.files.writer import write_file
from keptpictures.hurts.remains import Remains, salvage, select_rows
from keptpictures.palettes.palette import Palette
from keptpictures.pictures.picture import Picture
from tests.chunks_by_hand import chunk_by_hand
from tests.files_by_hand import bytes_of, ends_of, file_by_hand, packed_by_hand
from tests.helpers import are_plain_integers, chances, some_picture
from tests.remains_by_hand import salvage_by_hand
from tests.test_writer import EXAMPLE, some_case

HEAD, DATA, END = (0, (2, 1, 1, 0, 1, 0, 0, 0)), (2, (0, 0, 1, 0, 4)), (4, ())
SPARED = (0, (2, 1, 1, 0, 1, 0, 0, 1))
COLOURED = (0, (2, 1, 1, 0, 2, 3, 0, 0))
PALETTE, OTHER_PALETTE = (1, packed_by_hand("100001")), (1, packed_by_hand("110100"))


def told(remains):
    """Return the parts of remains, with the palette as its colours."""
    palette = None if remains.palette is None else remains.palette.entries
    return remains.head, palette, remains.data, remains.spares, remains.report


def states(remains):
    return [(kind, state) for _, _, kind, state in remains.report]


def hurt(chunk, place=-1, change=1):
    """Return the bytes of a chunk with one byte changed."""
    data = list(chunk_by_hand(*chunk))
    data[place] ^= change
    return tuple(data)


class SalvageTest(unittest.TestCase):
    def test_the_example_of_the_document(self):
        remains = salvage((128, 2, 1, 1, 0, 1, 0, 0, 0, 8, 11, 87, 132, 0, 4, 8))
        self.assertEqual(remains.report, ((0, 12, 0, "kept"), (12, 16, 4, "idle")))
        self.assertIsInstance(remains, Remains)
        self.assertTrue(remains.head == Head(2, 1, (1,)))
        self.assertEqual((remains.palette, remains.data, remains.spares), (None, (), ()))

    def test_a_whole_file(self):
        remains = salvage(data=EXAMPLE, head=None, palette=None, mend=False)
        self.assertEqual(remains.report, ((0, 12, 0, "kept"), (12, 21, 2, "kept"), (21, 25, 4, "idle")))
        self.assertEqual(remains.data, ((0, 0, 1, 0, 4),))
        self.assertEqual([type(part) for part in told(remains)[2:]], [tuple] * 3)
        self.assertIs(type(remains.report[0]), tuple)
        self.assertTrue(are_plain_integers([row[:3] for row in remains.report]))

    def test_the_options_are_passed_by_name_alone(self):
        with self.assertRaises(TypeError):
            salvage(EXAMPLE, None)

    def test_all_parts(self):
        chunks = [COLOURED, PALETTE, (2, (0, 0, 1, 4) + packed_by_hand("000" + "0001")), END]
        remains = salvage(bytes_of(chunks))
        self.assertTrue(remains.head == Head(2, 1, (2,), colours=3))
        self.assertTrue(remains.palette == Palette([(2,), (0,), (1,)], (2,)))
        self.assertEqual(remains.data, (chunks[2][1],))
        self.assertEqual(states(remains), [(0, "kept"), (1, "kept"), (2, "kept"), (4, "idle")])

    def test_spares_are_kept_apart(self):
        remains = salvage(bytes_of([SPARED, DATA, (3, (0, 32)), END]))
        self.assertEqual((remains.data, remains.spares), ((DATA[1],), ((0, 32),)))
        self.assertEqual(states(remains), [(0, "kept"), (2, "kept"), (3, "kept"), (4, "idle")])

    def test_chosen_files_that_lost_chunks_or_were_hurt(self):
        chance = chances(67)
        for _ in range(120):
            chunks = []
            for _ in range(chance.choice((1, 1, 2))):
                picture, plan = some_case(chance, 3)
                chunks += file_by_hand(picture, plan, chance)
            if chance.random() < 0.3:
                chance.shuffle(chunks)
            data = list(bytes_of([chunk for chunk in chunks if chance.random() < 0.8]))
            for _ in range(chance.randint(0, 3)):
                place = chance.randrange(len(data) + 1)
                data[place:place + chance.randint(0, 1)] = [chance.randrange(136) for _ in range(chance.randint(0, 1))]
            data = tuple(data)
            mend = chance.random() < 0.2
            wanted = salvage_by_hand(data, Head.of, mend=mend)
            if wanted is None:
                with self.assertRaises(NoHead):
                    salvage(data, mend=mend)
            else:
                remains = salvage(data, mend=mend)
                self.assertTrue(remains.head == wanted[0])
                self.assertEqual(told(remains)[1:], wanted[1:])


class PiecesTest(unittest.TestCase):
    def test_bytes_ahead_of_the_first_mark(self):
        remains = salvage((1, 2, 3) + EXAMPLE)
        self.assertEqual([row[:2] for row in remains.report], [(3, 15), (15, 24), (24, 28)])

    def test_pieces_that_are_not_sound_are_lost(self):
        data = EXAMPLE[:12] + (133, 5) + (130,) + hurt(DATA) + (255,) + EXAMPLE[12:20]
        self.assertEqual(salvage(data).report, (
            (0, 12, 0, "kept"), (12, 14, -1, "lost"), (14, 15, -1, "lost"), (15, 24, -1, "lost"), (24, 25, -1, "lost"),
            (25, 33, -1, "lost")))

    def test_a_file_that_was_cut(self):
        for end in range(12, 25):
            remains = salvage(EXAMPLE[:end])
            self.assertEqual(remains.data, (DATA[1],) if end >= 21 else ())

    def test_no_head(self):
        for data in ((), (1, 2, 3), EXAMPLE[12:], EXAMPLE[:11], hurt(HEAD) + EXAMPLE[12:]):
            with self.assertRaises(NoHead) as caught:
                salvage(data)
            self.assertIsInstance(caught.exception, KeepError)

    def test_a_text_without_pieces_and_a_head(self):
        remains = salvage((5, 6), head=Head(1, 1, (1,)))
        self.assertEqual((remains.report, remains.data, remains.spares), ((), (), ()))


class HeadsTest(unittest.TestCase):
    def test_the_first_head_is_kept_and_the_others_are_idle(self):
        other = (0, (1, 1, 1, 0, 1, 0, 0, 0))
        remains = salvage(bytes_of([HEAD, other, HEAD]))
        self.assertEqual(states(remains), [(0, "kept"), (0, "idle"), (0, "idle")])
        self.assertEqual(remains.head.width, 2)
        self.assertEqual(salvage(bytes_of([other, HEAD])).head.width, 1)

    def test_heads_whose_content_is_none_are_idle(self):
        wrong = [(0, ()), (0, (41, 1, 1, 0, 1, 0, 0, 0)), (0, HEAD[1] + (0,)), (0, HEAD[1][:-1])]
        remains = salvage(bytes_of(wrong + [HEAD] + wrong))
        self.assertEqual(states(remains), [(0, "idle")] * 4 + [(0, "kept")] + [(0, "idle")] * 4)
        with self.assertRaises(NoHead):
            salvage(bytes_of(wrong))

    def test_a_head_may_stand_behind_what_it_tells_about(self):
        remains = salvage(bytes_of([DATA, END, HEAD]))
        self.assertEqual(states(remains), [(2, "kept"), (4, "idle"), (0, "kept")])

    def test_a_head_that_is_passed(self):
        head = Head(1, 2, (1,))
        remains = salvage(bytes_of([HEAD, DATA, (2, (0, 1, 1, 0, 0)), (0, ())]), head=head)
        self.assertTrue(remains.head == head)
        # The second data piece begins with the lane 1, which only the passed head has.
        self.assertEqual(states(remains), [(0, "idle"), (2, "lost"), (2, "kept"), (0, "idle")])

    def test_heads_of_every_size(self):
        for head in (Head(40, 40, (16,) * 4, spares=3), Head(1, 1, (1,)), Head(40, 1, (3,), colours=1)):
            remains = salvage(chunk_by_hand(0, head.content()))
            self.assertTrue(remains.head == head)


class PalettesTest(unittest.TestCase):
    def test_the_first_palette_is_kept_and_the_others_are_idle(self):
        remains = salvage(bytes_of([PALETTE, COLOURED, OTHER_PALETTE]))
        self.assertEqual(states(remains), [(1, "kept"), (0, "kept"), (1, "idle")])
        self.assertEqual(remains.palette.entries, ((2,), (0,), (1,)))
        self.assertEqual(salvage(bytes_of([OTHER_PALETTE, COLOURED, PALETTE])).palette.entries, ((3,), (1,), (0,)))

    def test_palettes_whose_content_is_none_are_idle(self):
        wrong = [(1, packed_by_hand("100010")), (1, ()), (1, PALETTE[1] + (0,)), (1, (PALETTE[1][0] + 1,))]
        remains = salvage(bytes_of(wrong + [COLOURED, PALETTE]))
        self.assertEqual(states(remains), [(1, "idle")] * 4 + [(0, "kept"), (1, "kept")])
        remains = salvage(bytes_of([COLOURED] + wrong))
        self.assertIsNone(remains.palette)
        self.assertEqual(states(remains), [(0, "kept")] + [(1, "idle")] * 4)

    def test_palettes_of_plain_files_are_idle(self):
        remains = salvage(bytes_of([HEAD, PALETTE]))
        self.assertEqual(states(remains), [(0, "kept"), (1, "idle")])
        self.assertIsNone(remains.palette)
        empty = salvage(bytes_of([HEAD, (1, ())]))
        self.assertEqual(states(empty), [(0, "kept"), (1, "idle")])
        self.assertIsNone(empty.palette)

    def test_palettes_of_one_and_of_64_colours(self):
        for depths, many, content in (((3,), 1, packed_by_hand("101")),
                                      ((6,), 64, packed_by_hand("".join(format(n, "06b") for n in range(64))))):
            head = Head(1, 1, depths, colours=many)
            remains = salvage(bytes_of([(0, head.content()), (1, content), (1, content)]))
            self.assertEqual(states(remains), [(0, "kept"), (1, "kept"), (1, "idle")])
            self.assertEqual(len(remains.palette), many)

    def test_a_lost_palette(self):
        remains = salvage(bytes_of([COLOURED, (2, (0, 0, 1, 4) + packed_by_hand("000" + "0001"))]))
        self.assertIsNone(remains.palette)
        self.assertEqual(len(remains.data), 1)

    def test_a_palette_that_is_passed(self):
        palette = Palette([(0,), (1,), (2,)], (2,))
        remains = salvage(bytes_of([COLOURED, PALETTE]), palette=palette)
        self.assertTrue(remains.palette == palette)
        self.assertEqual(states(remains), [(0, "kept"), (1, "idle")])
        both = salvage(bytes_of([HEAD, PALETTE]), head=Head(2, 1, (2,), colours=3), palette=palette)
        self.assertEqual(states(both), [(0, "idle"), (1, "idle")])
        self.assertTrue(both.palette == palette)

    def test_palettes_that_do_not_suit_the_head(self):
        fitting = Palette([(0,), (1,), (2,)], (2,))
        for data, palette in ((bytes_of([HEAD]), Palette([(0,), (1,)], (1,))),
                              (bytes_of([HEAD]), Palette([(0,)], (1,))),
                              (bytes_of([COLOURED]), Palette([(0,), (1,), (2,)], (3,))),
                              (bytes_of([COLOURED]), Palette([(0,), (1,)], (2,))),
                              (bytes_of([COLOURED]), Palette([(0, 0), (1, 0), (2, 0)], (2, 1)))):
            with self.assertRaises(Unlike):
                salvage(data, palette=palette)
        with self.assertRaises(Unlike):
            salvage(bytes_of([COLOURED]), head=Head(2, 1, (2,)), palette=fitting)
        with self.assertRaises(NoHead):
            salvage(bytes_of([DATA]), palette=fitting)


class DataAndSparesTest(unittest.TestCase):
    def test_data_that_does_not_have_the_form_is_lost(self):
        wrong = ((), (0,), (0, 0, 1, 0), (0, 1, 1, 0, 4), (0, 0, 2, 0, 4), (0, 0, 0, 0, 4), (0, 0, 1, 4, 4),
                 (0, 0, 1, 0, 5), (0, 0, 1, 0, 4, 0), (1, 0, 1, 0, 4), (0, 0, 1, 64, 1, 0, 0, 0, 4))
        for content in wrong:
            remains = salvage(bytes_of([HEAD, (2, content), DATA]))
            self.assertEqual(states(remains), [(0, "kept"), (2, "lost"), (2, "kept")], content)
            self.assertEqual(remains.data, (DATA[1],))

    def test_data_need_not_agree(self):
        contents = ((0, 0, 1, 0, 4), (0, 0, 1, 0, 0), (0, 0, 1, 0, 4), (0, 0, 1, 0, 124))
        remains = salvage(bytes_of([HEAD] + [(2, content) for content in contents]))
        self.assertEqual(remains.data, contents)

    def test_spares_of_any_numbers_are_kept(self):
        contents = ((0, 0), (0, 32), (0, 64), (0, 96))
        remains = salvage(bytes_of([SPARED] + [(3, content) for content in contents]))
        self.assertEqual(remains.spares, contents)
        self.assertEqual(states(remains)[1:], [(3, "kept")] * 4)

    def test_spares_that_do_not_have_the_form_are_lost(self):
        for content in ((), (0,), (1, 0), (0, 1), (0, 0, 0), (127, 0)):
            remains = salvage(bytes_of([SPARED, (3, content)]))
            self.assertEqual((states(remains)[1], remains.spares), ((3, "lost"), ()))
        coloured = (0, (1, 1, 1, 0, 2, 3, 0, 1))
        remains = salvage(bytes_of([coloured, (3, (0, 96)), (3, (0, 64))]))
        self.assertEqual((states(remains)[1:], remains.spares), ([(3, "lost"), (3, "kept")], ((0, 64),)))

    def test_spares_of_a_head_without_spares_are_lost(self):
        for content in ((), (0,), (0, 0), (0, 32)):
            remains = salvage(bytes_of([HEAD, (3, content)]))
            self.assertEqual((states(remains)[1], remains.spares), ((3, "lost"), ()))

    def test_spares_without_bits(self):
        head = Head(2, 1, (1,), colours=1, spares=1)
        remains = salvage(bytes_of([(0, head.content()), (3, (0,)), (3, ()), (3, (0, 0))]))
        self.assertEqual((states(remains)[1:], remains.spares), ([(3, "kept"), (3, "lost"), (3, "lost")], ((0,),)))

    def test_ends(self):
        remains = salvage(bytes_of([END, HEAD, END, (4, (0,)), (4, (1, 2, 3))]))
        self.assertEqual(states(remains), [(4, "idle"), (0, "kept"), (4, "idle"), (4, "lost"), (4, "lost")])


class MendingTest(unittest.TestCase):
    def test_pieces_are_mended_only_if_it_is_asked_for(self):
        data = bytes_of([HEAD]) + hurt(DATA, 5) + hurt(END, 1)
        self.assertEqual(states(salvage(data)), [(0, "kept"), (-1, "lost"), (-1, "lost")])
        remains = salvage(data, mend=True)
        self.assertEqual(states(remains), [(0, "kept"), (2, "mended"), (4, "idle")])
        self.assertEqual(remains.data, (DATA[1],))

    def test_every_replaced_byte_of_the_example(self):
        for place in range(25):
            for change in (1, 2, 64, 127):
                data = EXAMPLE[:place] + (EXAMPLE[place] ^ change,) + EXAMPLE[place + 1:]
                remains = salvage(data, mend=True)
                self.assertTrue(remains.head == Head(2, 1, (1,)))
                self.assertEqual((remains.data, remains.report[0][3]), ((DATA[1],), "mended" if place < 12 else "kept"))

    def test_mended_heads_palettes_and_spares(self):
        spared = (0, (2, 1, 1, 0, 2, 3, 0, 1))
        spare = (3, (0, 0))
        data = hurt(spared, 1) + hurt(PALETTE) + hurt(spare, 0, 4) + hurt(spared) + hurt(PALETTE)
        remains = salvage(data, mend=True)
        self.assertEqual(states(remains), [(0, "mended"), (1, "mended"), (3, "mended"), (0, "idle"), (1, "idle")])
        self.assertEqual((remains.head.spares, remains.palette.entries), (1, ((2,), (0,), (1,))))
        self.assertEqual(remains.spares, ((0, 0),))
        with self.assertRaises(NoHead):
            salvage(data)

    def test_a_mended_head_counts_where_it_stands(self):
        other = (0, (1, 1, 1, 0, 1, 0, 0, 0))
        data = hurt(other) + bytes_of([HEAD])
        self.assertEqual(states(salvage(data)), [(-1, "lost"), (0, "kept")])
        self.assertEqual(states(salvage(data, mend=True)), [(0, "mended"), (0, "idle")])
        self.assertEqual(salvage(data, mend=True).head.width, 1)

    def test_mended_pieces_without_the_form_are_lost(self):
        data = bytes_of([HEAD]) + hurt((2, (9, 9))) + hurt((3, (0, 0))) + hurt((4, (1,)), 1)
        self.assertEqual(states(salvage(data, mend=True)), [(0, "kept"), (2, "lost"), (3, "lost"), (4, "lost")])

    def test_pieces_of_3_4_129_and_130_bytes(self):
        head = Head(1, 1, (16,), colours=63, spares=0)
        short = (132, 0, 4)
        long = [(1, tuple((place * 7 + 1) % 128 for place in range(length))) for length in (125, 126)]
        data = bytes_of([(0, head.content())]) + short + hurt(END) + hurt(long[0], 30) + hurt(long[1], 30)
        self.assertEqual([end - start for start, end, _, _ in salvage(data).report][1:], [3, 4, 129, 130])
        self.assertEqual(states(salvage(data, mend=True))[1:], [(-1, "lost"), (4, "idle"), (1, "idle"), (-1, "lost")])

    def test_pieces_with_marks_above_132(self):
        data = EXAMPLE[:12] + (200,) + EXAMPLE[13:]
        self.assertEqual(states(salvage(data)), [(0, "kept"), (-1, "lost"), (4, "idle")])
        self.assertEqual(states(salvage(data, mend=True)), [(0, "kept"), (2, "mended"), (4, "idle")])


class LargeTest(unittest.TestCase):
    def test_the_greatest_file_cut_and_torn(self):
        picture = some_picture(chances(68), 40, 40, (16,) * 4)
        data = write_file(picture, even_plan(picture, word="ad", spares=2, code=33))
        chunks = [(kind, start, end) for start, end, kind, _ in salvage(data).report]
        self.assertEqual([kind for kind, _, _ in chunks], [0, 2, 3, 2, 3, 2, 3, 4])
        torn = data[:chunks[1][1] + 500] + data[chunks[2][1]:chunks[5][1] + 77]
        self.assertEqual(states(salvage(torn)), [(0, "kept"), (-1, "lost"), (3, "kept"), (2, "kept"), (3, "kept"),
                                                 (-1, "lost")])

    def test_a_text_of_many_pieces(self):
        remains = salvage(EXAMPLE * 400, mend=True)
        self.assertEqual(len(remains.report), 1200)
        self.assertEqual(remains.data, (DATA[1],) * 400)

    def test_files_with_own_tables_and_palettes(self):
        picture = Picture.of((3, 1), [[(1, 1), (7, 0)], [(0, 1), (1, 1)]], True)
        plan = Plan(((7, 0), (1, 1), (0, 1)), chunks=[(2, (((1, 0), (1, 1)), None), (5, 6))])
        remains = salvage(write_file(picture, plan))
        self.assertEqual(remains.palette.entries, plan.palette)
        self.assertEqual([state for _, state in states(remains)], ["kept", "kept", "kept", "idle"])
        self.assertEqual(ends_of(file_by_hand(picture, plan)), [end for _, end, _, _ in remains.report])


class SelectRowsTest(unittest.TestCase):
    REPORT = ((0, 12, 0, "kept"), (12, 14, -1, "lost"), (14, 23, 2, "kept"), (23, 27, 4, "idle"), (27, 40, 2, "lost"))

    def test_without_fields_all_rows(self):
        self.assertEqual(select_rows(self.REPORT), list(self.REPORT))
        self.assertEqual(select_rows(list(self.REPORT)), list(self.REPORT))
        self.assertEqual(select_rows(()), [])

    def test_one_field(self):
        rows = self.REPORT
        self.assertEqual(select_rows(rows, start=14), [rows[2]])
        self.assertEqual(select_rows(rows, end=40), [rows[4]])
        self.assertEqual(select_rows(rows, kind=2), [rows[2], rows[4]])
        self.assertEqual(select_rows(rows, kind=-1), [rows[1]])
        self.assertEqual(select_rows(rows, state="lost"), [rows[1], rows[4]])
        self.assertEqual(select_rows(rows, state="mended"), [])
        self.assertEqual(select_rows(rows, start=0, end=12, kind=0, state="kept"), [rows[0]])

    def test_several_fields(self):
        self.assertEqual(select_rows(self.REPORT, kind=2, state="lost"), [self.REPORT[4]])
        self.assertEqual(select_rows(self.REPORT, kind=2, state="idle"), [])

    def test_other_fields(self):
        for fields, least in (({"colour": 1}, "colour"), ({"zebra": 1, "apple": 2}, "apple"),
                              ({"kind": 2, "kinds": 2}, "kinds"), ({"Start": 0, "start": 0}, "Start"),
                              ({"ab": 1, "a": 2}, "a")):
            for rows in (self.REPORT, ()):
                with self.assertRaises(BadField) as caught:
                    select_rows(rows, **fields)
                self.assertEqual(caught.exception.name, least)
                self.assertIsInstance(caught.exception, KeepError)

    def test_the_returned_list_is_free(self):
        rows = list(self.REPORT)
        found = select_rows(rows)
        found.pop()
        rows.pop()
        self.assertEqual(len(select_rows(self.REPORT)), 5)
        self.assertEqual((len(found), len(rows)), (4, 4))
        self.assertIs(type(found), list)


if __name__ == "__main__":
    unittest.main()
