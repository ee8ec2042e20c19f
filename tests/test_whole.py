"""Points 57, 58, 61 and 63: byte texts, read as whole files."""

import unittest

from keptpictures.errors import BadFile, KeepError
from keptpictures.files.plan import Plan, even_plan
from keptpictures.files.reader import Reader
from keptpictures.files.whole import chunks_of, first_wrong, read_file, read_plan, tidy
from keptpictures.files.writer import write_file
from keptpictures.pictures.picture import Picture
from tests.all_files import Files
from tests.chunks_by_hand import chunk_by_hand
from tests.files_by_hand import OWN_TABLES, all_codes, bytes_of, ends_of, file_by_hand, packed_by_hand
from tests.helpers import are_plain_integers, chances, some_picture
from tests.test_writer import EXAMPLE, some_case


def refusals(data):
    """Return what the four functions that read a whole file say of a byte text that is none."""
    told = []
    for call in (read_file, read_plan, tidy):
        try:
            call(data)
            told.append(None)
        except BadFile as wrong:
            assert isinstance(wrong, KeepError) and are_plain_integers((wrong.at, wrong.chunk))
            told.append((wrong.at, wrong.chunk))
    return told + [first_wrong(data)]


class ReadTest(unittest.TestCase):
    def test_the_example_of_the_document(self):
        picture = Picture.of((1,), [[(0,), (1,)]])
        self.assertTrue(read_file(EXAMPLE) == picture)
        self.assertTrue(read_plan(EXAMPLE) == even_plan(picture))
        self.assertIsNone(first_wrong(EXAMPLE))
        self.assertEqual(tidy(EXAMPLE), EXAMPLE)
        self.assertEqual(list(chunks_of(EXAMPLE)), [(0, (2, 1, 1, 0, 1, 0, 0, 0)), (2, (0, 0, 1, 0, 4)), (4, ())])

    def test_by_name(self):
        self.assertTrue(read_file(data=EXAMPLE) == read_file(EXAMPLE))
        self.assertTrue(read_plan(data=EXAMPLE) == read_plan(EXAMPLE))
        self.assertEqual(tidy(data=EXAMPLE), EXAMPLE)
        self.assertIsNone(first_wrong(data=EXAMPLE))
        self.assertEqual(len(list(chunks_of(data=EXAMPLE))), 3)

    def test_chosen_files(self):
        chance = chances(61)
        for _ in range(120):
            picture, plan = some_case(chance)
            data = write_file(picture, plan)
            self.assertTrue(read_file(data) == picture)
            self.assertTrue(read_plan(data) == plan)
            self.assertEqual((read_plan(data).palette, read_plan(data).word, read_plan(data).spares,
                              read_plan(data).chunks), (plan.palette, plan.word, plan.spares, plan.chunks))
            self.assertIsNone(first_wrong(data))
            self.assertEqual(tidy(data), data)
            self.assertEqual(list(chunks_of(data)), file_by_hand(picture, plan))

    def test_files_whose_tokens_are_not_the_least_ones(self):
        chance = chances(610)
        longer = 0
        for _ in range(120):
            picture, plan = some_case(chance)
            chunks = file_by_hand(picture, plan, chance)
            data = bytes_of(chunks)
            self.assertTrue(read_file(data) == picture)
            self.assertTrue(read_plan(data) == plan)
            self.assertEqual(list(chunks_of(data)), chunks)
            self.assertEqual(tidy(data), write_file(picture, plan))
            self.assertLessEqual(len(tidy(data)), len(data))
            self.assertEqual(tidy(tidy(data)), tidy(data))
            longer += len(tidy(data)) < len(data)
        self.assertGreater(longer, 20)

    def test_the_parts_of_a_plan_are_tuples(self):
        picture = Picture.of((2,), [[(3,), (1,)]])
        plan = Plan(((3,), (1,)), chunks=[(1, OWN_TABLES[1], (4,))])
        told = read_plan(write_file(picture, plan))
        self.assertEqual(told.palette, ((3,), (1,)))
        self.assertEqual(told.chunks, ((1, OWN_TABLES[1], (4,)),))
        self.assertTrue(are_plain_integers((told.palette, told.chunks[0][0], told.chunks[0][2], told.spares)))

    def test_sizes_at_the_bounds(self):
        chance = chances(611)
        for width, height, depths in ((1, 1, (1,)), (1, 40, (16,)), (40, 1, (16, 1)), (40, 40, (1,)),
                                      (40, 40, (16,) * 4)):
            picture = some_picture(chance, width, height, depths, len(depths) == 2)
            for word, kind, code in (("", 1, 2 * max(depths)), ("adadad", 5, 2 * max(depths) + 1), ("aaaaaa", 7, 1)):
                plan = even_plan(picture, word=word, kind=kind, code=code, spares=3)
                data = write_file(picture, plan)
                self.assertTrue(read_file(data) == picture)
                self.assertTrue(read_plan(data) == plan)

    def test_all_filters_in_all_passes(self):
        picture = some_picture(chances(612), 9, 9, (3,))
        for word in ("", "a", "d", "ad", "ddaa"):
            for kind in range(8):
                plan = even_plan(picture, word=word, kind=kind, most=3)
                self.assertTrue(read_file(write_file(picture, plan)) == picture)


class RefusedTest(unittest.TestCase):
    def check(self, data, at, chunk):
        self.assertEqual(refusals(data), [(at, chunk)] * 3 + [at], data)

    def test_the_example_of_the_document(self):
        self.check((128, 2, 0), 2, 0)

    def test_the_empty_byte_text(self):
        self.check((), 0, 0)

    def test_every_beginning_of_a_file(self):
        chance = chances(630)
        for _ in range(12):
            picture, plan = some_case(chance, 3)
            chunks = file_by_hand(picture, plan, chance)
            data, ends = bytes_of(chunks), ends_of(chunks)
            for end in range(len(data)):
                self.check(data[:end], end, sum(place <= end for place in ends))

    def test_bytes_behind_a_file(self):
        for more in ((0,), (128,), EXAMPLE, (255, 255)):
            self.check(EXAMPLE + more, 25, 3)

    def test_each_byte_of_the_example_changed_left_out_and_put_in(self):
        files = Files(2, 1, (1,), codes=(0,))
        for place in range(len(EXAMPLE)):
            for byte in range(256):
                for rest in (EXAMPLE[place + 1:], EXAMPLE[place:]):
                    data = EXAMPLE[:place] + (byte,) + rest
                    # Heads and codes may go on otherwise, which is tested elsewhere.
                    if place in (1, 2, 3, 4, 5, 6, 7, 8, 16):
                        self.assertNotEqual(first_wrong(data), None if data != EXAMPLE else 0)
                        continue
                    at = files.place_of(data)
                    if at is None:
                        self.assertIsNone(first_wrong(data))
                    elif at != 16:
                        self.check(data, at, sum(end <= at for end in (12, 21, 25)))
            self.assertIsNotNone(first_wrong(EXAMPLE[:place] + EXAMPLE[place + 1:]))

    def test_hurt_files_of_small_heads(self):
        chance = chances(631)
        for parts, named in (((1, 1, (1,)), {"codes": all_codes(2)}),
                             ((1, 1, (1,)), {"codes": (0, 1), "colours": 1}),
                             ((1, 1, (1, 1)), {"codes": (0, 1, 2, 3), "spares": 1}),
                             ((2, 1, (1,)), {"codes": (0, 1, 2, 3), "word": "a", "spares": 2})):
            files = Files(*parts, **named)
            for data in chance.sample(sorted(files.known), 40):
                marks = [at for at, byte in enumerate(data) if byte >= 128]
                hurt = list(data)
                places = sorted(set(range(marks[1] - 3, len(data))) - (
                    files.open_places(data) if len(files.codes) < 10 else set()))
                place, turn = chance.choice(places), chance.randrange(3)
                if turn == 0:
                    hurt[place] = chance.choice((0, 1, 2, 64, 127, 130, 132, hurt[place] ^ 1))
                elif turn == 1:
                    del hurt[place]
                else:
                    hurt.insert(place, chance.choice((0, 1, 64, 128, 131)))
                at = files.place_of(tuple(hurt))
                if at is None:
                    self.assertIsNone(first_wrong(tuple(hurt)))
                elif at not in files.open_places(data) or len(files.codes) > 10:
                    self.check(tuple(hurt), at, sum(mark <= at for mark in marks[1:] + [len(data)]))

    def test_the_place_is_that_of_a_reader(self):
        chance = chances(632)
        for _ in range(150):
            picture, plan = some_case(chance, 4)
            data = list(bytes_of(file_by_hand(picture, plan, chance)))
            for _ in range(chance.randint(1, 2)):
                place = chance.randrange(len(data))
                data[place:place + chance.randint(0, 2)] = [chance.randrange(140) for _ in range(chance.randint(0, 2))]
            reader = Reader()
            taken = None
            for at, byte in enumerate(data):
                try:
                    reader.feed(byte)
                except BadFile:
                    taken = at
                    break
            if taken is None:
                taken = None if reader.done else len(data)
            self.assertEqual(first_wrong(tuple(data)), taken)

    def test_chunks_that_are_sound_but_wrong(self):
        head = (0, (2, 1, 1, 0, 1, 0, 0, 1))
        data = (2, (0, 0, 1, 0, 4))
        spare = (3, (0, 32))
        self.assertIsNone(first_wrong(bytes_of([head, data, spare, (4, ())])))
        at = [0] + ends_of([head, data, spare, (4, ())])
        # A chunk that is missing, doubled or elsewhere is refused at its mark.
        self.check(bytes_of([data, spare, (4, ())]), 0, 0)
        self.check(bytes_of([head, spare, (4, ())]), at[1], 1)
        self.check(bytes_of([head, data, (4, ())]), at[2], 2)
        self.check(bytes_of([head, data, spare]), at[3], 3)
        self.check(bytes_of([head, head, data, spare, (4, ())]), at[1], 1)
        self.check(bytes_of([head, data, data, spare, (4, ())]), at[2], 2)
        self.check(bytes_of([head, data, spare, spare, (4, ())]), at[3], 3)
        self.check(bytes_of([head, (1, (0,)), data, spare, (4, ())]), at[1], 1)
        # A wrong spare, an end with a content, a wrong first lane and a wrong count.
        self.check(bytes_of([head, data, (3, (0, 0)), (4, ())]), at[2] + 2, 2)
        self.check(bytes_of([head, data, (3, (1, 32)), (4, ())]), at[2] + 1, 2)
        self.check(bytes_of([head, data, spare, (4, (0,))]), at[3] + 2, 3)
        self.check(bytes_of([head, (2, (0, 1, 1, 0, 4)), spare, (4, ())]), at[1] + 2, 1)
        self.check(bytes_of([head, (2, (0, 0, 2, 0, 4)), spare, (4, ())]), at[1] + 3, 1)

    def test_a_palette_with_an_entry_twice(self):
        front = chunk_by_hand(0, (1, 1, 1, 0, 3, 2, 0, 0))
        for entries, at in (("000" + "000", 1), ("101" + "101", 1), ("000" + "001", None)):
            data = front + chunk_by_hand(1, packed_by_hand(entries))
            if at is None:
                self.check(data, len(data), 2)
            else:
                self.check(data, len(front) + at, 1)

    def test_wrong_closing_bytes(self):
        for ends, chunk in ((12, 0), (21, 1), (25, 2)):
            for place in (ends - 3, ends - 2, ends - 1):
                for byte in (0, 1, 8, 64, 127, 130):
                    if byte != EXAMPLE[place]:
                        self.check(EXAMPLE[:place] + (byte,) + EXAMPLE[place + 1:], place, chunk)


class ChunksTest(unittest.TestCase):
    def test_it_is_a_generator(self):
        told = chunks_of(EXAMPLE)
        self.assertEqual(next(told), (0, (2, 1, 1, 0, 1, 0, 0, 0)))
        self.assertEqual([kind for kind, _ in told], [2, 4])

    def test_a_file_with_all_kinds(self):
        picture = Picture.of((1,), [[(0,), (1,)]])
        data = write_file(picture, even_plan(picture, palette=((1,), (0,)), spares=1))
        self.assertEqual(list(chunks_of(data)), [
            (0, (2, 1, 1, 0, 1, 2, 0, 1)), (1, packed_by_hand("10")),
            (2, (0, 0, 1, 0) + packed_by_hand("000" + "10" + "0")), (3, (0,) + packed_by_hand("10")), (4, ())])


if __name__ == "__main__":
    unittest.main()
