"""Point 53, first sentence: bits packed into numbers."""

import unittest

from keptpictures.codes.packing import pack, unpack
from tests.helpers import are_plain_integers, chances


class PackTest(unittest.TestCase):
    def test_no_bits(self):
        self.assertEqual(pack(""), ())
        self.assertEqual(unpack(()), "")

    def test_the_example_of_the_document(self):
        self.assertEqual(pack("00001"), (4,))

    def test_seven_bits_are_one_number(self):
        self.assertEqual(pack("1000001"), (65,))
        self.assertEqual(pack("0000000"), (0,))
        self.assertEqual(pack("1111111"), (127,))

    def test_zeros_are_added_behind(self):
        self.assertEqual(pack("1"), (64,))
        self.assertEqual(pack("0"), (0,))
        self.assertEqual(pack("111111"), (126,))

    def test_eight_bits_are_two_numbers(self):
        self.assertEqual(pack("10000011"), (65, 64))
        self.assertEqual(pack("00000000"), (0, 0))

    def test_two_numbers(self):
        self.assertEqual(pack("00000010000010"), (1, 2))

    def test_unpacking_gives_seven_bits_for_each_number(self):
        self.assertEqual(unpack((65,)), "1000001")
        self.assertEqual(unpack((0, 127, 1)), "000000011111110000001")

    def test_both_ways(self):
        chance = chances(53)
        for length in list(range(30)) + [699, 700, 701]:
            bits = "".join(chance.choice("01") for _ in range(length))
            packed = pack(bits)
            self.assertIs(type(packed), tuple)
            self.assertTrue(are_plain_integers(packed))
            self.assertEqual(len(packed), (length + 6) // 7)
            self.assertEqual(unpack(packed), bits + "0" * (7 * len(packed) - length))
        for number in range(128):
            self.assertEqual(pack(unpack((number,))), (number,))

    def test_many_bits(self):
        self.assertEqual(pack("10" * 70000), (85, 42) * 10000)

    def test_by_name(self):
        self.assertEqual(pack(bits="1"), (64,))
        self.assertEqual(unpack(content=(64,)), "1000000")


if __name__ == "__main__":
    unittest.main()
