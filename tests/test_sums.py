"""Points 45, 46 and 50: chunks and their closing bytes."""

import unittest

from keptpictures.chunks.sums import KINDS, closing, double, write_chunk
from tests.chunks_by_hand import closing_by_hand, double_by_hand
from tests.helpers import are_plain_integers, chances


class DoubleTest(unittest.TestCase):
    def test_below_64_it_is_twice_the_number(self):
        self.assertEqual([double(number) for number in (0, 1, 2, 63)], [0, 2, 4, 126])

    def test_from_64_on_it_is_twice_the_number_less_128_changed_by_3(self):
        self.assertEqual([double(number) for number in (64, 65, 66, 127)], [3, 1, 7, 125])

    def test_all_numbers(self):
        self.assertEqual([double(number) for number in range(128)], [double_by_hand(number) for number in range(128)])

    def test_only_zero_has_the_double_zero(self):
        self.assertEqual([number for number in range(128) if double(number) == 0], [0])

    def test_doubling_gives_every_number_before_it_comes_back(self):
        for start in range(1, 128):
            row, number = [], start
            for _ in range(127):
                number = double(number)
                row.append(number)
            self.assertEqual(number, start)
            self.assertEqual(sorted(row), list(range(1, 128)))


class ClosingTest(unittest.TestCase):
    def test_the_example_of_the_document(self):
        self.assertEqual(closing(0, (2, 1, 1, 0, 1, 0, 0, 0)), (8, 11, 87))

    def test_empty_contents_of_all_kinds(self):
        self.assertEqual([closing(kind, ()) for kind in range(5)],
                         [(0, 0, 0), (0, 1, 2), (0, 2, 4), (0, 3, 6), (0, 4, 8)])

    def test_one_number(self):
        # The summed row is (2, 5, 1): t = 2, then double(2) ^ 5 = 1, then double(1) ^ 1 = 3.
        self.assertEqual(closing(2, (5,)), (1, 6, 3))

    def test_lengths_around_128(self):
        for length in (1, 124, 125, 126, 127, 128, 129, 130, 255, 256, 300):
            content = tuple(place * place % 128 for place in range(length))
            for kind in range(5):
                self.assertEqual(closing(kind, content), closing_by_hand(kind, content), (kind, length))
                self.assertEqual(closing(kind, content)[0], length % 128)

    def test_chosen_contents(self):
        chance = chances(46)
        for _ in range(300):
            content = tuple(chance.randrange(128) for _ in range(chance.randrange(40)))
            kind = chance.randrange(5)
            told = closing(kind, content)
            self.assertEqual(told, closing_by_hand(kind, content))
            self.assertTrue(are_plain_integers(told))
            self.assertIs(type(told), tuple)


class WriteChunkTest(unittest.TestCase):
    def test_the_kinds(self):
        self.assertEqual(KINDS, ("head", "palette", "data", "spare", "end"))

    def test_the_chunks_of_the_example(self):
        self.assertEqual(write_chunk(0, (2, 1, 1, 0, 1, 0, 0, 0)), (128, 2, 1, 1, 0, 1, 0, 0, 0, 8, 11, 87))
        self.assertEqual(write_chunk(2, (0, 0, 1, 0, 4)), (130, 0, 0, 1, 0, 4, 5, 2, 6))
        self.assertEqual(write_chunk(4, ()), (132, 0, 4, 8))

    def test_mark_content_and_closing_bytes(self):
        for length in (0, 1, 125, 126, 127, 128, 200):
            content = tuple((5 * place + 1) % 128 for place in range(length))
            for kind in range(5):
                chunk = write_chunk(kind, content)
                self.assertIs(type(chunk), tuple)
                self.assertEqual(chunk, (128 + kind,) + content + closing_by_hand(kind, content))
                self.assertTrue(all(byte < 128 for byte in chunk[1:]))

    def test_arguments_by_name(self):
        self.assertEqual(write_chunk(kind=3, content=(1,)), write_chunk(3, (1,)))
        self.assertEqual(closing(kind=3, content=(1,)), closing(3, (1,)))
        self.assertEqual(double(number=5), 10)


if __name__ == "__main__":
    unittest.main()
