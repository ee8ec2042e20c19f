"""Points 62, 63 and 65: readers, fed byte by byte and otherwise."""

import unittest

from keptpictures.errors import BadFile, KeepError, NotWhole
from keptpictures.files.bodies import body_of
from keptpictures.files.plan import even_plan
from keptpictures.files.reader import Reader
from keptpictures.files.writer import write_file
from keptpictures.palettes.palette import Palette
from keptpictures.passes.views import coarse_view
from keptpictures.pictures.picture import Picture
from tests.all_files import Files
from tests.chunks_by_hand import chunk_by_hand
from tests.files_by_hand import (OWN_TABLES, all_codes, bytes_of, ends_of, file_by_hand, lanes_by_hand, packed_by_hand,
                                 palette_by_hand)
from tests.helpers import chances, some_picture
from tests.test_writer import EXAMPLE, some_case

BYTES = tuple(range(134)) + (192, 255)


def state(reader):
    return (reader.taken, reader.whole_chunks, reader.received_lanes, reader.received_passes, reader.done)


def fed(data):
    reader = Reader()
    reader.feed(*data)
    return reader


def refusal(reader, *data):
    """Return the attributes of the error with which the bytes are refused, or None."""
    try:
        reader.feed(*data)
    except BadFile as wrong:
        assert isinstance(wrong, KeepError)
        return wrong.at, wrong.chunk
    return None


class FeedTest(unittest.TestCase):
    def test_the_example_of_the_document(self):
        reader = Reader()
        self.assertEqual(state(reader), (0, 0, 0, 0, False))
        self.assertIsNone(reader.feed(*EXAMPLE))
        self.assertEqual(state(reader), (25, 3, 1, 1, True))
        self.assertTrue(reader.picture() == Picture.of((1,), [[(0,), (1,)]]))
        self.assertEqual([type(value) for value in state(reader)], [int, int, int, int, bool])

    def test_no_bytes(self):
        reader = Reader()
        self.assertIsNone(reader.feed())
        self.assertEqual(state(reader), (0, 0, 0, 0, False))

    def test_bytes_behind_a_whole_file_are_refused(self):
        reader = fed(EXAMPLE)
        for byte in (0, 128, 132, 255):
            self.assertEqual(refusal(reader, byte), (25, 3))
            self.assertEqual(state(reader), (25, 3, 1, 1, True))
        self.assertEqual(refusal(Reader(), *EXAMPLE, 128), (25, 3))

    def test_a_refused_byte_leaves_the_bytes_before_it(self):
        reader = Reader()
        self.assertEqual(refusal(reader, 128, 2, 1, 0, 1, 1), (3, 0))
        self.assertEqual(state(reader), (3, 0, 0, 0, False))
        self.assertEqual(refusal(reader, 5), (3, 0))
        reader.feed(*EXAMPLE[3:])
        self.assertTrue(reader.done)

    def test_a_byte_may_be_refused_anywhere_and_the_reader_goes_on(self):
        chance = chances(62)
        for _ in range(25):
            picture, plan = some_case(chance, 4)
            chunks = file_by_hand(picture, plan, chance)
            data, ends = bytes_of(chunks), ends_of(chunks)
            reader = Reader()
            for at, byte in enumerate(data):
                whole = sum(end <= at for end in ends)
                for wrong in (133, 255, 128 if byte < 128 else 0):
                    self.assertEqual(refusal(reader, wrong, byte), (at, whole))
                reader.feed(byte)
                self.assertEqual(reader.taken, at + 1)
            self.assertTrue(reader.done)
            self.assertTrue(reader.picture() == picture)

    def test_the_same_bytes_in_any_pieces(self):
        chance = chances(620)
        for _ in range(25):
            picture, plan = some_case(chance)
            data = bytes_of(file_by_hand(picture, plan, chance))
            single, pieces, place = Reader(), Reader(), 0
            while place < len(data):
                end = min(len(data), place + chance.randint(0, 30))
                pieces.feed(*data[place:end])
                for byte in data[place:end]:
                    single.feed(byte)
                self.assertEqual(state(pieces), state(single))
                place = end
            self.assertTrue(pieces.picture() == single.picture() == picture)

    def test_refused_bytes_in_any_pieces(self):
        chance = chances(621)
        for _ in range(60):
            picture, plan = some_case(chance, 3)
            data = list(bytes_of(file_by_hand(picture, plan)))
            data[chance.randrange(len(data))] = chance.randrange(256)
            whole, single = Reader(), Reader()
            told = refusal(whole, *data)
            apart = None
            for byte in data:
                apart = apart or refusal(single, byte)
                if apart:
                    break
            self.assertEqual(told, apart)
            self.assertEqual(state(whole), state(single))

    def test_what_it_tells_at_each_place(self):
        chance = chances(65)
        for _ in range(40):
            picture, plan = some_case(chance)
            chunks = file_by_hand(picture, plan, chance)
            ends = ends_of(chunks)
            counts = [count for count, _, _ in plan.chunks]
            sheets = len(picture.planes) if plan.palette is None else 1
            passes = [lane[0] for lane in lanes_by_hand(picture.width, picture.height, plan.word, sheets)]
            reader = Reader()
            for at, byte in enumerate(bytes_of(chunks)):
                reader.feed(byte)
                whole = sum(end <= at + 1 for end in ends)
                lanes = sum(counts[:sum(kind == 2 for kind, _ in chunks[:whole])])
                received = 0
                if whole:
                    received = min(passes[lanes:], default=len(plan.word) + 1)
                self.assertEqual(state(reader), (at + 1, whole, lanes, received, whole == len(chunks)))

    def test_a_whole_picture_of_the_greatest_size_at_once(self):
        picture = some_picture(chances(40), 40, 40, (16, 16, 16, 16))
        data = write_file(picture, even_plan(picture, word="adadad", spares=3, code=32, kind=4))
        self.assertGreater(len(data), 12800)
        reader = Reader()
        reader.feed(*data)
        self.assertEqual(state(reader)[3:], (7, True))
        self.assertTrue(reader.picture() == picture)


class ShownTest(unittest.TestCase):
    def not_whole(self, call):
        with self.assertRaises(NotWhole) as caught:
            call()
        self.assertIsInstance(caught.exception, KeepError)

    def test_nothing_is_shown_before_a_pass_is_received(self):
        reader = Reader()
        for byte in EXAMPLE[:20]:
            self.not_whole(reader.coarse)
            self.not_whole(reader.picture)
            reader.feed(byte)
        reader.feed(EXAMPLE[20])
        self.assertTrue(reader.coarse() == Picture.of((1,), [[(0,), (1,)]]))
        self.not_whole(reader.picture)
        reader.feed(*EXAMPLE[21:-1])
        self.not_whole(reader.picture)
        reader.feed(EXAMPLE[-1])
        self.assertTrue(reader.picture() == reader.coarse())

    def test_the_coarse_picture_after_each_pass(self):
        chance = chances(650)
        for _ in range(40):
            picture, plan = some_case(chance, 9)
            palette = None if plan.palette is None else Palette(plan.palette, picture.depths)
            body = body_of(picture, palette)
            reader = Reader()
            for byte in bytes_of(file_by_hand(picture, plan)):
                reader.feed(byte)
                if reader.received_passes == 0:
                    self.not_whole(reader.coarse)
                    continue
                views = [coarse_view(sheet, plan.word, reader.received_passes) for sheet in body]
                if palette is None:
                    wanted = Picture(views, picture.mask)
                else:
                    wanted = palette.painted(views[0], picture.mask)
                if byte >= 128 or reader.done:
                    self.assertTrue(reader.coarse() == wanted)
            self.assertTrue(reader.coarse() == picture)
            self.assertIs(reader.picture().mask, picture.mask)

    def test_cells_of_half_a_pass_are_not_shown(self):
        picture = Picture.of((4,), [[(number,) for number in range(4 * y, 4 * y + 4)] for y in range(4)])
        reader = Reader()
        chunks = file_by_hand(picture, even_plan(picture, word="d", most=1))
        # The head, the rows 0 and 2, and one of the two other rows.
        reader.feed(*bytes_of(chunks[:4]))
        self.assertEqual((reader.received_lanes, reader.received_passes), (3, 1))
        self.assertTrue(reader.coarse() == Picture.of((4,), [picture.rows[0]] * 2 + [picture.rows[2]] * 2))

    def test_passes_without_tracks_are_received_with_the_one_before(self):
        picture = Picture.of((1,), [[(1,)]])
        reader = Reader()
        chunks = file_by_hand(picture, even_plan(picture, word="adadad"))
        reader.feed(*bytes_of(chunks[:1]))
        self.assertEqual(reader.received_passes, 0)
        reader.feed(*bytes_of(chunks[1:2]))
        self.assertEqual(reader.received_passes, 7)

    def test_spares_are_not_waited_for(self):
        picture = Picture.of((1,), [[(1,)]])
        reader = Reader()
        reader.feed(*bytes_of(file_by_hand(picture, even_plan(picture, spares=3))[:2]))
        self.assertEqual((reader.received_passes, reader.done), (1, False))
        self.assertTrue(reader.coarse() == picture)


class AllFilesTest(unittest.TestCase):
    """Every byte at every place, compared with all files of a head."""

    CASES = (
        ((1, 1, (1,)), {"codes": all_codes(2)}),
        ((1, 1, (1,)), {"codes": (0, 1, 3) + OWN_TABLES[1:3], "spares": 2}),
        ((1, 1, (1,)), {"codes": (0, 1), "colours": 1}),
        ((1, 1, (2,)), {"codes": (0, 1), "colours": 3}),
        ((1, 1, (1, 1), True), {"codes": (1,)}),
        ((2, 1, (1,)), {"codes": (1, 2), "word": "a", "spares": 1}),
        ((1, 2, (1,)), {"codes": (0, OWN_TABLES[2])}),
        ((3, 1, (1,)), {"codes": (0, 1, 3, OWN_TABLES[2]), "spares": 1}),
    )

    def test_every_byte_at_every_place(self):
        chance = chances(63)
        for parts, named in self.CASES:
            files = Files(*parts, **named)
            for data in chance.sample(sorted(files.known), 6):
                reader = Reader()
                ends = [at for at, byte in enumerate(data) if byte >= 128] + [len(data)]
                places = files.open_places(data) if named["codes"] != all_codes(2) else range(ends[1] - 3)
                for at, byte in enumerate(data):
                    if at not in places:
                        whole = sum(end <= at for end in ends[1:])
                        for wrong in BYTES:
                            if wrong not in files.begun[data[:at]]:
                                self.assertEqual(refusal(reader, wrong), (at, whole), (data[:at], wrong))
                    reader.feed(byte)
                palette, sheets, _ = files.known[data]
                self.assertTrue(reader.done)
                body = [sheet.rows for sheet in body_of(reader.picture(), palette and Palette(palette, parts[2]))]
                self.assertEqual(body, sheets)

    def test_other_bytes_that_files_go_on_with(self):
        chance = chances(630)
        for parts, named in self.CASES:
            files = Files(*parts, **named)
            for data in chance.sample(sorted(files.begun), 120):
                reader = fed(data)
                self.assertEqual(reader.taken, len(data))
                for byte in chance.sample(sorted(files.begun[data]), min(3, len(files.begun[data]))):
                    self.assertIsNone(refusal(fed(data), byte))


class HeadTest(unittest.TestCase):
    def test_bytes_of_a_head(self):
        front = (128,)
        allowed = (set(range(1, 41)), set(range(1, 41)), {1, 2, 3, 4}, {0, 1}, set(range(1, 17)), {1}, set(range(65)),
                   set(range(7)), {0, 1}, {0, 1}, {0, 1, 2, 3})
        row = (7, 40, 2, 1, 9, 1, 64, 2, 1, 0, 3)
        for choices, number in zip(allowed, row):
            reader = fed(front)
            for byte in BYTES:
                if byte not in choices:
                    self.assertEqual(refusal(reader, byte), (len(front), 0))
            for byte in choices:
                self.assertIsNone(refusal(fed(front), byte))
            front += (number,)
        ending = chunk_by_hand(0, row)[-3:]
        for byte in ending:
            self.assertEqual([other for other in range(256) if refusal(fed(front), other) is None], [byte])
            front += (byte,)
        self.assertEqual(fed(front).whole_chunks, 1)

    def test_the_chunk_behind_the_head(self):
        for content, mark in (((2, 1, 1, 0, 1, 0, 0, 0), 130), ((2, 1, 1, 0, 1, 1, 0, 0), 129)):
            front = chunk_by_hand(0, content)
            self.assertEqual([byte for byte in range(256) if refusal(fed(front), byte) is None], [mark])

    def test_only_a_head_comes_first(self):
        self.assertEqual([byte for byte in range(256) if refusal(Reader(), byte) is None], [128])


class PaletteTest(unittest.TestCase):
    def allowed(self, head, content):
        """Return the numbers that can come next in a palette chunk."""
        front = chunk_by_hand(0, head) + (129,) + content
        return [byte for byte in range(128) if refusal(fed(front), byte) is None]

    def test_a_colour_that_can_only_equal_an_earlier_one(self):
        # Two colours of one bit: 01 and 10.
        self.assertEqual(self.allowed((1, 1, 1, 0, 1, 2, 0, 0), ()), [32, 64])
        # Four colours of two bits, the last one of them on its own: 0001 10 and then 11.
        self.assertEqual(self.allowed((1, 1, 1, 0, 2, 4, 0, 0), ()),
                         sorted({int(bits[:7], 2) for bits in self.orders(("00", "01", "10", "11"))}))
        self.assertEqual(self.allowed((1, 1, 1, 0, 2, 4, 0, 0), (0b0001101,)), [64])
        self.assertEqual(self.allowed((1, 1, 1, 0, 2, 4, 0, 0), (0b1101100,)), [0])

    def orders(self, words):
        if not words:
            return [""]
        return [word + rest for word in words for rest in self.orders(tuple(other for other in words if other != word))]

    def test_all_palettes_of_eight_colours(self):
        words = tuple(format(number, "03b") for number in range(8))
        contents = {packed_by_hand(bits) for bits in self.orders(words)}
        begun = {}
        for content in contents:
            for at in range(4):
                begun.setdefault(content[:at], set()).add(content[at])
        for front in chances(57).sample(sorted(begun), 40):
            self.assertEqual(self.allowed((1, 1, 2, 0, 1, 2, 8, 0, 0), front), sorted(begun[front]))

    def test_palettes_of_64_entries(self):
        for depths in ((6,), (3, 3), (2, 1, 2, 1), (16, 16, 16, 16)):
            places = [[number * (2 ** depth - 1) // 63 if sum(depths) > 6 else None for depth in depths]
                      for number in range(64)]
            if sum(depths) == 6:
                bits = [format(number, "06b") for number in reversed(range(64))]
                colours = []
                for word in bits:
                    colour = ()
                    for depth in depths:
                        colour, word = colour + (int(word[:depth], 2),), word[depth:]
                    colours.append(colour)
            else:
                colours = [tuple(colour) for colour in places]
            picture = Picture.of(depths, [colours[:40], colours[24:]])
            plan = even_plan(picture, palette=colours)
            data = write_file(picture, plan)
            reader = fed(data)
            self.assertTrue(reader.picture() == picture)
            content = palette_by_hand(colours, depths)
            at = data.index(129) + 1
            self.assertEqual(data[at:at + len(content)], content)
            # A colour put in the place of another one that stands before it.
            twice = palette_by_hand(colours[:-1] + colours[:1], depths)
            wrong = data[:at] + twice + data[at + len(content):]
            at_last = refusal(Reader(), *wrong)[0]
            self.assertTrue(at + len(content) - 11 <= at_last < at + len(content))


class PlanOfReaderTest(unittest.TestCase):
    def test_a_spare_that_is_wrong_is_refused_at_once(self):
        picture = some_picture(chances(3), 5, 4, (7,))
        data = write_file(picture, even_plan(picture, spares=3))
        at = data.index(131)
        for place in range(at + 1, len(data) - 4):
            reader = fed(data[:place])
            for byte in BYTES:
                if byte != data[place]:
                    self.assertEqual(refusal(reader, byte), (place, 2))
            reader.feed(*data[place:])
            self.assertTrue(reader.done)


if __name__ == "__main__":
    unittest.main()
