"""Points 47 and 48: pieces, and which of them are sound."""

import unittest

from keptpictures.chunks.pieces import is_sound, pieces
from keptpictures.chunks.sums import write_chunk
from tests.chunks_by_hand import is_chunk, replacements
from tests.helpers import chances

CONTENTS = ((), (0,), (5,), (127, 0, 127), (2, 1, 1, 0, 1, 0, 0, 0))


def some_content(seed, length):
    chance = chances(seed)
    return tuple(chance.randrange(128) for _ in range(length))


class PiecesTest(unittest.TestCase):
    def test_a_text_without_a_mark_has_no_pieces(self):
        self.assertEqual(pieces(()), [])
        self.assertEqual(pieces((0,)), [])
        self.assertEqual(pieces((1, 127, 3)), [])

    def test_a_piece_reaches_up_to_the_next_mark_or_to_the_end(self):
        self.assertEqual(pieces((128,)), [(0, 1)])
        self.assertEqual(pieces((128, 1, 2)), [(0, 3)])
        self.assertEqual(pieces((130, 1, 131, 132, 5, 6)), [(0, 2), (2, 3), (3, 6)])

    def test_bytes_ahead_of_the_first_mark_belong_to_no_piece(self):
        self.assertEqual(pieces((1, 2, 129, 3)), [(2, 4)])
        self.assertEqual(pieces((127, 128)), [(1, 2)])

    def test_bytes_above_132_begin_pieces_too(self):
        self.assertEqual(pieces((133, 1, 255, 200, 7)), [(0, 2), (2, 3), (3, 5)])

    def test_chunks_are_pieces(self):
        text = ()
        ends = [0]
        for kind, content in enumerate(CONTENTS):
            text += write_chunk(kind, content)
            ends.append(len(text))
        self.assertEqual(pieces(text), list(zip(ends, ends[1:])))

    def test_chosen_texts(self):
        chance = chances(47)
        for _ in range(200):
            text = tuple(chance.choice((0, 5, 127, 128, 132, 255)) for _ in range(chance.randrange(12)))
            told = pieces(text)
            for start, end in told:
                self.assertGreaterEqual(text[start], 128)
                self.assertTrue(all(byte < 128 for byte in text[start + 1:end]))
                self.assertTrue(end == len(text) or text[end] >= 128)
            self.assertEqual([start for start, _ in told], [at for at, byte in enumerate(text) if byte >= 128])

    def test_a_long_text(self):
        text = (128, 1) * 50000
        self.assertEqual(pieces(text), [(place, place + 2) for place in range(0, 100000, 2)])

    def test_the_returned_list_is_free(self):
        text = (128, 1)
        pieces(text).append((9, 9))
        self.assertEqual(pieces(text), [(0, 2)])
        self.assertEqual(pieces(data=text), [(0, 2)])
        self.assertIs(type(pieces(text)), list)
        self.assertIs(type(pieces(text)[0]), tuple)


class SoundTest(unittest.TestCase):
    def test_written_chunks_are_sound(self):
        for kind in range(5):
            for content in CONTENTS + tuple(some_content(kind, length) for length in (125, 126, 127, 128, 129, 400)):
                self.assertIs(is_sound(write_chunk(kind, content)), True)

    def test_too_few_bytes(self):
        for piece in ((), (128,), (132, 0), (132, 0, 4), (128, 0, 0)):
            self.assertIs(is_sound(piece), False, piece)
        self.assertIs(is_sound((132, 0, 4, 8)), True)
        self.assertIs(is_sound((128, 0, 0, 0)), True)

    def test_other_first_bytes(self):
        # These closing bytes are the right ones for the kinds -1 and 5.
        self.assertIs(is_sound((133, 0, 5, 10)), False)
        self.assertIs(is_sound((133, 0, 5, 8)), False)
        self.assertIs(is_sound((255, 0, 127, 125)), False)
        self.assertIs(is_sound((4, 0, 4, 8)), False)
        self.assertIs(is_sound((127, 0, 0, 0)), False)

    def test_what_is_not_one_piece_is_not_sound(self):
        chunk = write_chunk(4, ())
        self.assertIs(is_sound(chunk + chunk), False)
        self.assertIs(is_sound((0,) + chunk), False)
        self.assertIs(is_sound(chunk + (0,)), False)
        self.assertIs(is_sound(chunk + (200,)), False)

    def test_a_mark_inside_is_never_sound(self):
        for inside in range(128, 256):
            for total in range(128):
                self.assertIs(is_sound((130, inside, 1, total, 0)), False)
        # The last three bytes would be the right ones if numbers above 127 could stand in a content.
        for piece in ((130, 128, 128, 2, 0, 20), (130, 128, 129, 2, 1, 22), (130, 0, 128, 128, 3, 1, 37),
                      (130, 0, 128, 200, 3, 73, 54)):
            self.assertIs(is_sound(piece), False, piece)

    def test_every_wrong_closing_byte(self):
        piece = write_chunk(2, (0, 0, 1, 0, 4))
        for place in (-3, -2, -1):
            for byte in range(256):
                if byte != piece[place]:
                    hurt = list(piece)
                    hurt[place] = byte
                    self.assertIs(is_sound(tuple(hurt)), False)

    def test_all_pieces_of_four_bytes_with_small_numbers(self):
        for kind in range(7):
            for a in range(4):
                for b in range(8):
                    for c in range(16):
                        piece = (128 + kind, a, b, c)
                        self.assertIs(is_sound(piece), is_chunk(piece), piece)

    def test_a_byte_left_out(self):
        for length in (1, 2, 8, 125, 126, 127, 128, 129, 256):
            piece = write_chunk(length % 5, some_content(length, length))
            for place in range(1, 1 + length):
                self.assertIs(is_sound(piece[:place] + piece[place + 1:]), False, (length, place))

    def test_a_byte_put_in(self):
        for length in (0, 1, 2, 8):
            piece = write_chunk(length % 5, some_content(length, length))
            for place in range(1, 2 + length):
                for byte in range(128):
                    self.assertIs(is_sound(piece[:place] + (byte,) + piece[place:]), False, (length, place, byte))
        for length in (125, 126, 127, 128):
            piece = write_chunk(2, some_content(length, length))
            for place in range(1, 2 + length):
                for byte in (0, 1, piece[place], 127):
                    self.assertIs(is_sound(piece[:place] + (byte,) + piece[place:]), False, (length, place, byte))

    def test_one_byte_replaced(self):
        for length in (0, 1, 7, 30):
            for other in replacements(write_chunk(3, some_content(length, length))):
                self.assertIs(is_sound(other), False)
        chance = chances(48)
        piece = write_chunk(2, some_content(125, 125))
        for place in range(1, len(piece)):
            byte = (piece[place] + chance.randrange(1, 128)) % 128
            self.assertIs(is_sound(piece[:place] + (byte,) + piece[place + 1:]), False)

    def test_two_bytes_replaced(self):
        # All pairs of changes in an empty chunk, and many in longer ones.
        for other in replacements(write_chunk(4, ())):
            for byte in range(128):
                twice = other[:2] + (byte,) + other[3:]
                self.assertIs(is_sound(twice), twice == (132, 0, 4, 8))
        chance = chances(49)
        for length in (1, 5, 125):
            piece = write_chunk(1, some_content(length, length))
            for _ in range(1500):
                first, second = sorted(chance.sample(range(len(piece)), 2))
                hurt = list(piece)
                hurt[first] = (hurt[first] + chance.randrange(1, 128)) % 128 + (128 if first == 0 else 0)
                hurt[second] = (hurt[second] + chance.randrange(1, 128)) % 128
                if tuple(hurt) != piece:
                    self.assertIs(is_sound(tuple(hurt)), False)

    def test_two_equal_changes_of_content_bytes_change_the_turn(self):
        # The sum stays as it is, so only the turn tells.
        piece = write_chunk(2, some_content(2, 125))
        for first in range(1, 126):
            for second in range(first + 1, 126):
                change = 1 + (first * second) % 127
                hurt = list(piece)
                hurt[first] ^= change
                hurt[second] ^= change
                self.assertIs(is_sound(tuple(hurt)), False)


if __name__ == "__main__":
    unittest.main()
