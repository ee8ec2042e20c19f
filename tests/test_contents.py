"""Points 54, 55, 56 and 69: the contents of data chunks and spare chunks."""

import unittest

from keptpictures.errors import BadContent, KeepError
from keptpictures.files.contents import read_data, read_spare
from keptpictures.files.head import Head
from tests.codes_by_hand import binary, coded_lanes
from tests.files_by_hand import (OWN_TABLES, all_codes, all_tables, code_by_hand, data_by_hand, lanes_by_hand,
                                 packed_by_hand, some_code, spare_by_hand, table_by_hand, width_by_hand)
from tests.helpers import are_plain_integers, chances


def refused_at(read, head, content):
    """Return the place at which a content is refused, or None."""
    try:
        read(head, content)
    except BadContent as wrong:
        assert isinstance(wrong, KeepError) and type(wrong.at) is int
        return wrong.at
    return None


def beginnings(contents):
    return {content[:end] for content in contents for end in range(len(content) + 1)}


def place_by_hand(content, contents, begun):
    """Return the place at which point 69 refuses a content, where these are all contents."""
    for at in range(len(content)):
        if content[:at + 1] not in begun:
            return at
    return None if content in contents else len(content)


def all_data(head, codes):
    """Return all contents of data chunks with these codes for a head with few small lanes, and what they tell."""
    lanes = lanes_by_hand(head.width, head.height, head.word, len(head.moduli))
    found = {}
    for code in codes:
        coded = {}
        for _, _, columns, z in lanes:
            coded[len(columns), z] = coded_lanes(len(columns), head.moduli[z], *table_by_hand(code, head.moduli[z]))
        for first, lane in enumerate(lanes):
            rows = [("", (), ())]
            for count in range(1, len(lanes) - first + 1):
                own, _, columns, z = lanes[first + count - 1]
                if own != lane[0]:
                    break
                rows = [(bits + binary(kind, 3) + more, filters + (kind,), numbers + (row,))
                        for bits, filters, numbers in rows for kind in range(8)
                        for more, row in coded[len(columns), z].items()]
                front = (0, first, count) + code_by_hand(code)
                for bits, filters, numbers in rows:
                    found[front + packed_by_hand(bits)] = (first, code, filters, numbers)
    return found


class ReadDataTest(unittest.TestCase):
    def check(self, head, content, at):
        self.assertEqual(refused_at(read_data, head, content), at, content)

    def test_the_example_of_the_document(self):
        self.assertEqual(read_data(Head(2, 1, (1,)), (0, 0, 1, 0, 4)), (0, 0, (0,), ((0, 1),)))

    def test_by_name(self):
        self.assertEqual(read_data(head=Head(2, 1, (1,)), content=(0, 0, 1, 0, 4)), (0, 0, (0,), ((0, 1),)))

    def test_an_own_table_is_told_as_in_a_plan(self):
        head = Head(2, 1, (2,))
        # Two rungs and a repeat; the filter 2, then 3 and 0 as the bits 10 11 and 0.
        content = (0, 0, 1, 64, 2, 1, 1, 0, 2, 2, 2, 5) + packed_by_hand("010" + "1010" + "0")
        told = read_data(head, content)
        self.assertEqual(told, (0, (((1, 0), (2, 2)), (2, 5)), (2,), ((3, 0),)))
        self.assertTrue(are_plain_integers(told[3]))
        without = (0, 0, 1, 64, 1, 0, 0, 2) + packed_by_hand("111" + "1101")
        self.assertEqual(read_data(head, without), (0, (((0, 2),), None), (7,), ((3, 1),)))

    def test_all_contents_of_small_heads(self):
        cases = ((Head(1, 1, (1,)), all_codes(2)[:60]), (Head(2, 1, (1,)), (0, 1, 3, OWN_TABLES[1])),
                 (Head(1, 2, (1,)), (0, 1, OWN_TABLES[2])), (Head(1, 1, (1, 2)), (0, 3, OWN_TABLES[3])),
                 (Head(2, 1, (1,), word="a"), (1, 2)), (Head(3, 1, (2,), colours=3), (1, OWN_TABLES[2])),
                 (Head(2, 2, (2,), colours=1), (0, 1) + tuple(all_tables(1)[:3])))
        chance = chances(690)
        for head, codes in cases:
            contents = all_data(head, codes)
            begun = beginnings(contents)
            for content in chance.sample(sorted(contents), min(80, len(contents))):
                self.assertEqual(read_data(head, content), contents[content])
                for end in range(len(content)):
                    self.check(head, content[:end], end)
                for more in (0, 1, 127):
                    self.check(head, content + (more,), len(content))
            for content in chance.sample(sorted(contents), 8):
                code = code_by_hand(contents[content][1])
                for place in range(3 + len(code), len(content)):
                    for number in range(128):
                        hurt = content[:place] + (number,) + content[place + 1:]
                        self.check(head, hurt, place_by_hand(hurt, contents, begun))

    def test_the_first_lane(self):
        # 40 rows and 4 sheets have 160 lanes.
        head = Head(1, 40, (1, 1, 1, 1))
        for first in (0, 1, 99, 127, 128, 159):
            content = (first // 128, first % 128, 1, 0, 0)
            self.assertEqual(read_data(head, content), (first, 0, (0,), ((0,),)))
        for number in (2, 3, 127):
            self.check(head, (number, 0, 1, 0, 0), 0)
        for number in (32, 33, 127):
            self.check(head, (1, number, 1, 0, 0), 1)
        # There are exactly 128 lanes, so the first number is 0.
        exact = Head(1, 32, (1, 1, 1, 1))
        self.check(exact, (1,), 0)
        self.assertEqual(read_data(exact, (0, 127, 1, 0, 0)), (127, 0, (0,), ((0,),)))
        small = Head(1, 3, (1,))
        self.check(small, (1, 0, 1, 0, 0), 0)
        self.check(small, (0, 3, 1, 0, 0), 1)
        self.assertEqual(read_data(small, (0, 2, 1, 0, 0)), (2, 0, (0,), ((0,),)))

    def test_the_number_of_lanes(self):
        head = Head(1, 40, (1, 1, 1, 1))
        for first, most in ((0, 100), (60, 100), (61, 99), (100, 60), (159, 1)):
            for count in (0, most + 1, 127):
                self.check(head, (first // 128, first % 128, count, 0), 2)
            content = (first // 128, first % 128, most, 0) + packed_by_hand("0000" * most)
            self.assertEqual(read_data(head, content), (first, 0, (0,) * most, ((0,),) * most))

    def test_lanes_of_one_pass_alone(self):
        # The passes of the word "d" have the rows 0, 2, 4 and 1, 3.
        head = Head(1, 5, (1, 1), word="d")
        for first, most in ((0, 6), (4, 2), (5, 1), (6, 4), (9, 1)):
            for count in range(12):
                at = 4 if 1 <= count <= most else 2
                self.check(head, (0, first, count, 0), at)

    def test_presets(self):
        for depths, colours in (((1,), 0), ((3, 16), 0), ((5,), 0), ((3,), 1), ((3,), 5), ((6,), 33), ((6,), 64)):
            head = Head(1, 1, depths, colours=colours)
            last = 2 * width_by_hand(max(head.moduli)) + 1
            for code in range(128):
                self.check(head, (0, 0, 1, code), 4 if code <= last or code == 64 else 3)

    def test_presets_of_the_smaller_moduli(self):
        # The greatest modulus allows preset 33, which is used for the modulus 2, too.
        head = Head(1, 1, (1, 16))
        content = data_by_hand(0, 33, (0, 0), ((1,), (2,)), head.moduli)
        self.assertEqual(read_data(head, content), (0, 33, (0, 0), ((1,), (2,))))
        flat = data_by_hand(0, 32, (1, 2), ((1,), (65535,)), head.moduli)
        self.assertEqual(flat, (0, 0, 2, 32) + packed_by_hand("001" + "1" + "010" + "1" * 16))
        self.assertEqual(read_data(head, flat), (0, 32, (1, 2), ((1,), (65535,))))

    def test_all_own_tables_of_small_moduli(self):
        for modulus in (1, 2, 3):
            head = Head(1, 1, (2,), colours=modulus)
            fronts = [(0, 0, 1) + code_by_hand(code) for code in all_tables(modulus)]
            begun = beginnings(fronts)
            longer = [front for front in sorted(begun) if len(front) >= 4]
            for front in chances(modulus).sample(longer, min(len(longer), 250)):
                if front in fronts:
                    self.check(head, front, len(front))
                    continue
                for number in list(range(20)) + [63, 64, 127]:
                    wanted = len(front) + (front + (number,) in begun)
                    self.check(head, front + (number,), wanted)

    def test_own_tables_of_the_greatest_moduli(self):
        head = Head(1, 1, (16,))
        self.check(head, (0, 0, 1, 64, 16), 4)
        self.check(head, (0, 0, 1, 64, 0), 4)
        self.check(head, (0, 0, 1, 64, 15, 2), 5)
        # One rung must have the length 0, and it must be as wide as the modulus is.
        self.check(head, (0, 0, 1, 64, 1, 0, 1), 6)
        self.check(head, (0, 0, 1, 64, 1, 0, 0, 15), 7)
        self.check(head, (0, 0, 1, 64, 1, 0, 0, 17), 7)
        self.check(head, (0, 0, 1, 64, 1, 0, 0, 16), 8)
        # Fourteen rungs leave two for the last but one when it is not the first.
        self.check(head, (0, 0, 1, 64, 2, 0, 1, 16), 7)
        self.check(head, (0, 0, 1, 64, 2, 0, 1, 15, 1, 14), 9)
        self.check(head, (0, 0, 1, 64, 2, 0, 1, 15, 1, 15), 10)
        self.check(head, (0, 0, 1, 64, 2, 0, 1, 15, 2), 8)
        # A repeat is at most 5 wide.
        self.check(head, (0, 0, 1, 64, 1, 1, 1, 16, 1, 5), 10)
        self.check(head, (0, 0, 1, 64, 1, 1, 1, 16, 1, 6), 9)

    def test_lengths_that_cannot_be_completed(self):
        # Sixteen lengths: fourteen others can make up for 1, 2, .. as long as one of length 15 is left for each.
        head = Head(1, 1, (4,))
        front = (0, 0, 1, 64, 15, 1)
        row = ()
        for length in range(1, 15):
            row += (length, 0)
            self.check(head, front + row, len(front + row))
            self.check(head, front + row[:-2] + (length - 1,), len(front + row) - 2)
        self.check(head, front + row + (14,), len(front + row))
        self.check(head, front + row + (15, 1, 15, 5), len(front + row) + 4)
        # Three lengths behind 2 and 2 must make a half, so none of them is 1 or above 3.
        three = (0, 0, 1, 64, 5, 0, 2, 0, 2, 0)
        taken = [length for length in range(16) if refused_at(read_data, head, three + (length,)) == 11]
        self.assertEqual(taken, [2, 3])

    def test_fifteen_rungs(self):
        head = Head(1, 1, (4,))
        rungs = ((1, 0),) + tuple((place, 0) for place in range(2, 15)) + ((15, 1),)
        content = data_by_hand(0, (rungs, (15, 0)), (3,), ((15,),), (16,))
        self.assertEqual(len(content), 3 + 3 + 2 * 16 + 3)
        self.assertEqual(read_data(head, content), (0, (rungs, (15, 0)), (3,), ((15,),)))

    def test_numbers_that_are_no_bits(self):
        head = Head(2, 1, (1,))
        # Seven bits: three for the filter, two for the lane, two zeros.
        for number in range(128):
            self.check(head, (0, 0, 1, 0, number), None if number % 4 == 0 else 4)
        self.check(head, (0, 0, 1, 0, 4, 0), 5)
        self.check(head, (0, 0, 1, 0, 200), 4)

    def test_exactly_seven_bits_need_no_zeros(self):
        head = Head(4, 1, (1,))
        for number in range(128):
            self.check(head, (0, 0, 1, 0, number), None)
            self.check(head, (0, 0, 1, 0, number, 0), 5)
        for first in (0, 127):
            self.check(Head(5, 1, (1,)), (0, 0, 1, 0, first), 5)
            for second in range(128):
                self.check(Head(5, 1, (1,)), (0, 0, 1, 0, first, second), None if second % 64 == 0 else 5)

    def test_other_tokens_than_the_least_ones(self):
        head = Head(4, 1, (1,))
        # Preset 1 for 2 has the codewords 0 and 10 for the numbers 0 and 1, and 11 for a repeat of 1 to 8.
        for bits, numbers in (("0 0 0 0", (0, 0, 0, 0)), ("11011", (0, 0, 0, 0)), ("0 11010", (0, 0, 0, 0)),
                              ("11000 11000 11000 11000", (0, 0, 0, 0)), ("10 11010", (1, 1, 1, 1)),
                              ("10 10 0 0", (1, 1, 0, 0)), ("11001 10 11000", (0, 0, 1, 1))):
            content = (0, 0, 1, 1) + packed_by_hand("000" + bits.replace(" ", ""))
            self.assertEqual(read_data(head, content), (0, 1, (0,), (numbers,)))
        # Repeats of one more than there are numbers left.
        self.check(head, (0, 0, 1, 1) + packed_by_hand("000" + "11100"), 4)
        self.check(head, (0, 0, 1, 1) + packed_by_hand("000" + "10" + "11011"), 5)

    def test_chosen_contents(self):
        chance = chances(691)
        for _ in range(60):
            depths = tuple(chance.randint(1, 6) for _ in range(chance.randint(1, 4)))
            colours = chance.choice((0, chance.randint(1, min(64, 2 ** sum(depths)))))
            word = "".join(chance.choice("ad") for _ in range(chance.randint(0, 6)))
            head = Head(chance.randint(1, 9), chance.randint(1, 9), depths, colours=colours, word=word)
            lanes = lanes_by_hand(head.width, head.height, word, len(head.moduli))
            first = chance.randrange(len(lanes))
            left = sum(lane[0] == lanes[first][0] for lane in lanes[first:])
            own = lanes[first:first + chance.randint(1, left)]
            filters = tuple(chance.randint(0, 7) for _ in own)
            rows = tuple(tuple(chance.choice((0, chance.randrange(head.moduli[z]))) for _ in columns)
                         for _, _, columns, z in own)
            code = some_code(chance, max(head.moduli))
            content = data_by_hand(first, code, filters, rows, head.moduli, chance)
            self.assertEqual(read_data(head, content), (first, code, filters, rows))
            end = chance.randrange(len(content))
            self.check(head, content[:end], end)
            self.check(head, content + (0,), len(content))


class ReadSpareTest(unittest.TestCase):
    def check(self, head, content, at):
        self.assertEqual(refused_at(read_spare, head, content), at, content)

    def test_one_spare(self):
        head = Head(3, 1, (2,), spares=1)
        self.assertEqual(read_spare(head, (0,) + packed_by_hand("011011")), (0, ((1, 2, 3),)))
        self.assertEqual(read_spare(head=head, content=(0, 0)), (0, ((0, 0, 0),)))

    def test_spares_of_several_sheets_and_numbers(self):
        head = Head(2, 2, (1, 3), spares=2)
        rows = ((0, 1), (7, 2), (1, 1), (0, 5))
        content = spare_by_hand(0, rows, head.moduli)
        self.assertEqual(content, (0,) + packed_by_hand("01" + "111010" + "11" + "000101"))
        told = read_spare(head, content)
        self.assertEqual(told, (0, rows))
        self.assertTrue(are_plain_integers(told))

    def test_without_spares_no_content_is_taken(self):
        head = Head(2, 2, (1, 3))
        for content in ((), (0,), (0, 0), (5,)):
            self.check(head, content, 0)

    def test_only_passes_with_tracks(self):
        # The word "add" has no tracks in pass 1 where the width is 1.
        head = Head(1, 3, (1,), word="add", spares=1)
        for number in range(128):
            self.check(head, (number,), 1 if number in (0, 2, 3) else 0)
        single = Head(1, 1, (1,), word="aaaaaa", spares=1)
        self.assertEqual([number for number in range(10) if refused_at(read_spare, single, (number,)) == 1], [0])

    def test_the_cells_of_the_passes(self):
        head = Head(5, 1, (1,), word="aa", spares=1)
        for number, cells in ((0, 2), (1, 1), (2, 2)):
            self.assertEqual(read_spare(head, (number, 0)), (number, ((0,) * cells,)))

    def test_every_number_is_less_than_its_modulus(self):
        head = Head(1, 1, (3,), colours=5, spares=1)
        for number in range(128):
            self.check(head, (0, number), None if number % 16 == 0 and number < 80 else 1)
        self.assertEqual(read_spare(head, (0, 64)), (0, ((4,),)))

    def test_a_number_across_two(self):
        # Three numbers of 3 bits below 5: the third one is in two numbers of the content.
        head = Head(3, 1, (3,), colours=5, spares=1)
        self.check(head, (0, 0b0000001), 2)
        self.check(head, (0, 0b0000001, 0), None)
        self.check(head, (0, 0b0000001, 0b0100000), 2)
        self.check(head, (0, 0b0000000, 0b1100000), None)
        self.check(head, (0, 0b0000000, 0b0010000), 2)
        self.check(head, (0, 0b1001010), 1)
        self.check(head, (0, 0b1001000, 0, 0), 3)

    def test_the_modulus_1_needs_no_bits(self):
        head = Head(3, 2, (3,), colours=1, spares=2)
        self.assertEqual(read_spare(head, (0,)), (0, ((0, 0, 0), (0, 0, 0))))
        self.check(head, (), 0)
        self.check(head, (0, 0), 1)

    def test_cut_and_longer_contents(self):
        chance = chances(692)
        for _ in range(60):
            depths = tuple(chance.randint(1, 16) for _ in range(chance.randint(1, 4)))
            colours = chance.choice((0, chance.randint(1, min(64, 2 ** sum(depths)))))
            word = "".join(chance.choice("ad") for _ in range(chance.randint(0, 3)))
            head = Head(chance.randint(1, 9), chance.randint(1, 9), depths, colours=colours, word=word,
                        spares=chance.randint(1, 3))
            number, _, columns, _ = chance.choice(lanes_by_hand(head.width, head.height, word, 1))
            rows = tuple(tuple(chance.randrange(modulus) for _ in columns)
                         for _ in range(head.spares) for modulus in head.moduli)
            content = spare_by_hand(number, rows, head.moduli)
            self.assertEqual(read_spare(head, content), (number, rows))
            for end in range(len(content)):
                self.check(head, content[:end], end)
            for more in (0, 1, 127):
                self.check(head, content + (more,), len(content))

    def test_zeros_behind_the_spares(self):
        head = Head(1, 1, (4,), spares=1)
        for number in range(128):
            self.check(head, (0, number), None if number % 8 == 0 else 1)


if __name__ == "__main__":
    unittest.main()
