"""Point 64: the least file that begins with a byte text."""

import unittest

from keptpictures.errors import BadFile, KeepError
from keptpictures.files.completion import completion
from keptpictures.files.whole import first_wrong, read_file, read_plan
from tests.all_files import Files
from tests.chunks_by_hand import chunk_by_hand
from tests.files_by_hand import OWN_TABLES, all_codes, bytes_of, ends_of, file_by_hand
from tests.helpers import chances
from tests.test_head import filled
from tests.test_writer import EXAMPLE, some_case

LEAST = (128, 1, 1, 1, 0, 1, 0, 0, 0, 8, 8, 93, 130, 0, 0, 1, 0, 0, 5, 6, 14, 132, 0, 4, 8)


class CompletionTest(unittest.TestCase):
    def test_the_empty_byte_text(self):
        told = completion(())
        self.assertEqual(told, LEAST)
        self.assertIs(type(told), tuple)
        self.assertEqual(completion(data=()), LEAST)

    def test_beginnings_of_the_least_file(self):
        for end in range(len(LEAST) + 1):
            self.assertEqual(completion(LEAST[:end]), LEAST)

    def test_a_file_is_its_own_completion(self):
        self.assertEqual(completion(EXAMPLE), EXAMPLE)
        chance = chances(64)
        for _ in range(40):
            picture, plan = some_case(chance)
            data = bytes_of(file_by_hand(picture, plan, chance))
            self.assertEqual(completion(data), data)

    def test_compared_with_all_files_of_a_head(self):
        chance = chances(640)
        for parts, named in (((1, 1, (1,)), {"codes": all_codes(2)}),
                             ((1, 1, (1,)), {"codes": (0, 1) + OWN_TABLES[2:3], "spares": 2}),
                             ((1, 1, (1,)), {"codes": (0, 1), "colours": 1}),
                             ((1, 1, (2,)), {"codes": (0,), "colours": 3}),
                             ((1, 2, (1,)), {"codes": (0, 1)}),
                             ((3, 1, (1,)), {"codes": (0, 1, 3)}),
                             ((2, 1, (1,)), {"codes": (0, 1), "word": "a", "spares": 1})):
            files = Files(*parts, **named)
            longer = files.closed_beginnings()
            for data in chance.sample(longer, min(len(longer), 120)):
                self.assertEqual(completion(data), files.least(data), data)

    def test_beginnings_of_heads(self):
        for content in ((7,), (7, 40), (7, 40, 4), (7, 40, 2, 1), (3, 3, 2, 1, 9), (3, 3, 2, 1, 9, 1),
                        (3, 3, 1, 0, 4, 16), (3, 3, 1, 0, 4, 16, 6), (3, 3, 1, 0, 4, 16, 6, 0, 1),
                        (3, 3, 1, 0, 4, 0, 1, 1, 3)):
            told = completion((128,) + content)
            chunk = chunk_by_hand(0, filled(content))
            self.assertEqual(told[:len(chunk)], chunk)
            self.assertEqual(told, completion(chunk))
            self.assertIsNone(first_wrong(told))

    def test_the_least_palette(self):
        head = chunk_by_hand(0, (1, 1, 1, 0, 6, 64, 0, 0))
        self.assertEqual(read_plan(completion(head)).palette, tuple((number,) for number in range(64)))
        three = chunk_by_hand(0, (1, 1, 2, 0, 1, 3, 3, 0, 0))
        self.assertEqual(read_plan(completion(three)).palette, ((0, 0), (0, 1), (0, 2)))
        # The first entry is (1, 1) already, so it cannot be the second one.
        self.assertEqual(read_plan(completion(three + (129, 0b1001000))).palette, ((1, 1), (0, 0), (0, 1)))

    def test_the_least_file_of_a_head(self):
        head = chunk_by_hand(0, (2, 3, 2, 0, 16, 1, 0, 0, 0))
        told = completion(head)
        plan = read_plan(told)
        # A count of 1 is the least, and so are preset 0 and filter 0; each number 0 is one bit.
        self.assertEqual(plan.chunks, ((1, 0, (0,)),) * 6)
        self.assertEqual(read_file(told).colour_list(), [(0, 0)])
        lanes = [chunk_by_hand(2, (0, lane, 1, 0, 0)) for lane in range(6)]
        self.assertEqual(told, head + sum(lanes, ()) + (132, 0, 4, 8))

    def test_a_lane_that_is_begun(self):
        # The preset 4 for 3 is one rung of width 2: behind 1 comes 0 alone.
        head = chunk_by_hand(0, (4, 1, 2, 0, 1, 1, 3, 0, 0))
        front = completion(head)
        data = front[:front.index(130)] + (130, 0, 0, 1, 4, 0b0000000, 0b1000000)
        self.assertEqual(completion(data)[:len(data)], data)
        wrong = data[:-1] + (0b1100000,)
        with self.assertRaises(BadFile) as caught:
            completion(wrong)
        self.assertEqual(caught.exception.at, len(wrong) - 1)

    def test_cut_files(self):
        chance = chances(641)
        for _ in range(25):
            picture, plan = some_case(chance, 4)
            chunks = file_by_hand(picture, plan, chance)
            data = bytes_of(chunks)
            before = None
            for end in sorted(chance.sample(range(len(data) + 1), 8)):
                told = completion(data[:end])
                self.assertEqual(told[:end], data[:end])
                self.assertIsNone(first_wrong(told))
                self.assertLessEqual(told, data)
                self.assertTrue(before is None or before <= told)
                self.assertEqual(completion(told), told)
                before = told

    def test_what_is_no_beginning_of_a_file(self):
        chance = chances(642)
        for data, at, chunk in (((0,), 0, 0), ((129,), 0, 0), ((128, 41), 1, 0), ((128, 2, 0), 2, 0),
                                (EXAMPLE + (0,), 25, 3), (EXAMPLE[:12] + (131,), 12, 1)):
            with self.assertRaises(BadFile) as caught:
                completion(data)
            self.assertEqual((caught.exception.at, caught.exception.chunk), (at, chunk))
            self.assertIsInstance(caught.exception, KeepError)
        for _ in range(60):
            picture, plan = some_case(chance, 3)
            chunks = file_by_hand(picture, plan, chance)
            data = list(bytes_of(chunks))
            place = chance.randrange(len(data))
            data[place] = chance.randrange(256)
            at = first_wrong(tuple(data))
            if at is None or at == len(data):
                self.assertEqual(completion(tuple(data))[:len(data)], tuple(data))
                continue
            with self.assertRaises(BadFile) as caught:
                completion(tuple(data))
            self.assertEqual((caught.exception.at, caught.exception.chunk),
                             (at, sum(end <= at for end in ends_of(chunks))))

    def test_the_greatest_head(self):
        told = completion(chunk_by_hand(0, (40, 40, 4, 0, 16, 16, 16, 16, 0, 6, 0, 1, 0, 1, 0, 1, 3)))
        self.assertIsNone(first_wrong(told))
        self.assertEqual(read_file(told).colour_list(), [(0, 0, 0, 0)])


if __name__ == "__main__":
    unittest.main()
