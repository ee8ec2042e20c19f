"""Points 49 and 50: pieces in which one byte was replaced."""

import unittest

from keptpictures.chunks.mending import mended
from keptpictures.chunks.sums import write_chunk
from tests.chunks_by_hand import mended_by_hand, replacements
from tests.helpers import chances


def some_content(chance, length):
    return tuple(chance.randrange(128) for _ in range(length))


class MendedTest(unittest.TestCase):
    def test_a_sound_piece_is_the_result_itself(self):
        chance = chances(490)
        for length in (0, 1, 4, 124, 125):
            for kind in range(5):
                piece = write_chunk(kind, some_content(chance, length))
                self.assertEqual(mended(piece), piece)

    def test_every_replaced_byte_is_undone(self):
        chance = chances(491)
        for kind, length in enumerate((0, 1, 2, 8, 20)):
            piece = write_chunk(kind, some_content(chance, length))
            for hurt in replacements(piece):
                self.assertEqual(mended(hurt), piece, hurt)
                self.assertIs(type(mended(hurt)), tuple)

    def test_replaced_bytes_of_the_longest_pieces(self):
        chance = chances(492)
        for length in (124, 125):
            piece = write_chunk(2, some_content(chance, length))
            for place in range(len(piece)):
                for change in (1, 64, 1 + chance.randrange(127)):
                    hurt = piece[:place] + (piece[place] ^ change,) + piece[place + 1:]
                    self.assertEqual(mended(hurt), piece, (length, place, change))

    def test_marks_above_132(self):
        piece = write_chunk(1, (7, 7))
        for mark in range(128, 256):
            self.assertEqual(mended((mark,) + piece[1:]), piece)

    def test_pieces_that_cannot_be_mended(self):
        self.assertIsNone(mended((128, 1, 2, 3)))
        self.assertIsNone(mended((132, 1, 5, 8)))
        self.assertIsNone(mended((255, 0, 0, 1)))
        # All bytes are right for the kind 5, which there is not; the mark alone does not make it sound.
        self.assertIsNone(mended((133, 0, 5, 10)))

    def test_two_replaced_bytes_never_give_the_old_piece_back(self):
        chance = chances(493)
        for _ in range(150):
            piece = write_chunk(chance.randrange(5), some_content(chance, chance.randrange(1, 6)))
            first, second = sorted(chance.sample(range(len(piece)), 2))
            hurt = list(piece)
            hurt[first] ^= chance.randrange(1, 128)
            hurt[second] ^= chance.randrange(1, 128)
            self.assertEqual(mended(tuple(hurt)), mended_by_hand(tuple(hurt)))
            self.assertNotEqual(mended(tuple(hurt)), piece)

    def test_all_pieces_of_four_bytes_of_some_kinds(self):
        for mark in (128, 130, 132, 133, 140):
            for length in (0, 1, 2):
                for total in range(0, 128, 5):
                    for turn in range(12):
                        piece = (mark, length, total, turn)
                        self.assertEqual(mended(piece), mended_by_hand(piece), piece)

    def test_chosen_pieces_of_any_bytes(self):
        chance = chances(494)
        for _ in range(150):
            length = chance.randrange(1, 5)
            # The length is right and the rest is not, so that some of them can be mended.
            piece = (chance.randrange(128, 136),) + tuple(chance.randrange(4) for _ in range(length))
            piece += (length, chance.randrange(8), chance.randrange(128))
            self.assertEqual(mended(piece), mended_by_hand(piece), piece)

    def test_by_name(self):
        self.assertEqual(mended(piece=(132, 0, 4, 9)), (132, 0, 4, 8))


if __name__ == "__main__":
    unittest.main()
