"""Points 41 to 43: coded lanes, and scanners that read them."""

import unittest
from itertools import product

from keptpictures.codes.scanner import Scanner, complete_lane, read_lane
from keptpictures.codes.table import Table
from keptpictures.codes.tokens import least_tokens, numbers_of, write_tokens
from keptpictures.errors import BadBits, KeepError
from tests.codes_by_hand import (beginnings_of, bits_by_hand, coded_lanes, first_refused, literals_by_hand,
                                 repetitions_by_hand, tokens_of_bits)
from tests.helpers import are_plain_integers, chances

ONE_NUMBER = Table([(0, 0)])
OF_THREE_BITS = Table([(0, 3)])
FIFTEEN = [(length, 0) for length in range(1, 16)]

# Rungs, repeat, and moduli for which all coded lanes of a few numbers are tried.
SMALL = (
    ([(0, 0)], None, (1,)),
    ([(0, 1)], None, (1, 2)),
    ([(0, 3)], None, (1, 3, 5, 8)),
    ([(1, 0), (1, 0)], None, (1, 2)),
    ([(1, 0)], (1, 0), (1,)),
    ([(1, 0)], (1, 3), (1,)),
    ([(1, 1), (1, 2)], None, (1, 2, 3, 5, 6)),
    ([(2, 0), (2, 1), (2, 0)], (2, 1), (1, 2, 3, 4)),
    ([(1, 0), (3, 1), (3, 0)], (2, 3), (1, 3, 4)),
    ([(3, 2), (2, 0), (3, 0)], (1, 2), (1, 4, 5)),
    ([(2, 2), (3, 0), (3, 2)], (1, 0), (2, 5, 6)),
)
COUNTS = (0, 1, 2, 3)


def all_bits(longest):
    return ["".join(bits) for many in range(longest + 1) for bits in product("01", repeat=many)]


def told(call, *arguments):
    """Return what a call returns, or the place at which it refuses bits."""
    try:
        return call(*arguments)
    except BadBits as error:
        return error.at


def some_table(chance):
    """Return the rungs and the repeat of one table of many kinds."""
    kinds = (
        ([(0, 3)], None), ([(1, 2), (2, 3), (2, 1)], None), ([(1, 0), (3, 1), (3, 0)], (2, 3)),
        ([(3, 0), (3, 1), (3, 2), (3, 3), (3, 4), (3, 0), (3, 5)], (3, 5)),
        (FIFTEEN[:14] + [(14, 4)], None), (FIFTEEN, (15, 2)), (FIFTEEN[1:] + [(15, 2)], (1, 5)),
    )
    return chance.choice(kinds)


def some_lane(chance, count, modulus, rungs, repeat):
    """Return tokens, which need not be the least ones, and their bits."""
    literals, repetitions = literals_by_hand(rungs, repeat, modulus), repetitions_by_hand(rungs, repeat)
    tokens, left = [], count
    while left:
        number = chance.randint(1, max(1, min(left, len(repetitions))))
        if repetitions and chance.random() < 0.4:
            tokens.append(("again", number))
            left -= number
        else:
            tokens.append(("one", chance.randrange(modulus)))
            left -= 1
    return tokens, bits_by_hand(tokens, literals, repetitions)


class ReadTest(unittest.TestCase):
    def test_the_examples_of_the_document(self):
        for bits, at in (("11", 1), ("101", 2), ("10", 2)):
            with self.assertRaises(BadBits) as caught:
                read_lane(bits, 1, 5, OF_THREE_BITS)
            self.assertEqual(caught.exception.at, at)
            self.assertIsInstance(caught.exception, KeepError)
        for number in range(5):
            self.assertEqual(read_lane(f"{number:03b}", 1, 5, OF_THREE_BITS), ((number,), 3))

    def test_literals_and_repetitions(self):
        table = Table([(1, 0), (3, 1), (3, 0)], (2, 3))
        self.assertEqual(read_lane("0" + "1101" + "10010" + "111", 6, 4, table), ((0, 2, 2, 2, 2, 3), 13))

    def test_repetitions_at_the_beginning(self):
        table = Table([(1, 0), (3, 1), (3, 0)], (2, 3))
        self.assertEqual(read_lane("10111", 8, 4, table), ((0,) * 8, 5))
        self.assertEqual(read_lane("10000" + "111", 2, 4, table), ((0, 3), 8))

    def test_a_repetition_that_is_longer_than_the_lane(self):
        table = Table([(1, 0), (3, 1), (3, 0)], (2, 3))
        self.assertEqual(told(read_lane, "10111", 7, 4, table), 4)
        self.assertEqual(told(read_lane, "10110", 7, 4, table), ((0,) * 7, 5))
        self.assertEqual(told(read_lane, "0" + "10001", 2, 4, table), 5)
        self.assertEqual(told(read_lane, "0" + "10000", 2, 4, table), ((0, 0), 6))
        self.assertEqual(told(read_lane, "101", 1, 4, table), 2)

    def test_numbers_that_are_not_less_than_the_modulus(self):
        table = Table([(1, 0), (2, 2), (2, 1)])
        self.assertEqual(table.starts, (0, 1, 5))
        self.assertEqual(told(read_lane, "1011", 1, 4, table), 3)
        self.assertEqual(told(read_lane, "1010", 1, 4, table), ((3,), 4))
        self.assertEqual(told(read_lane, "1010", 1, 3, table), 2)
        self.assertEqual(told(read_lane, "11", 1, 5, table), 1)
        self.assertEqual(told(read_lane, "111", 1, 6, table), 2)
        self.assertEqual(told(read_lane, "110", 1, 6, table), ((5,), 3))

    def test_lanes_that_need_no_bits(self):
        for bits in ("", "0", "1", "0110"):
            for count in (0, 1, 64):
                self.assertEqual(read_lane(bits, count, 1, ONE_NUMBER), ((0,) * count, 0))
            for table in (OF_THREE_BITS, Table([(1, 0)], (1, 5)), Table.preset(33, 65536)):
                self.assertEqual(read_lane(bits, 0, 1, table), ((), 0))

    def test_one_number_may_need_bits(self):
        table = Table([(1, 0)], (1, 1))
        self.assertEqual(read_lane("010" + "0" + "1", 3, 1, table), ((0, 0, 0), 4))
        self.assertEqual(told(read_lane, "", 1, 1, table), 0)
        table = Table([(0, 2)])
        self.assertEqual(told(read_lane, "00", 1, 1, table), ((0,), 2))
        self.assertEqual(told(read_lane, "1", 1, 1, table), 0)
        self.assertEqual(told(read_lane, "01", 1, 1, table), 1)

    def test_free_bits_behind_a_lane_are_not_looked_at(self):
        table = Table([(1, 0), (3, 1), (3, 0)], (2, 3))
        for free in ("", "0", "1", "111111111", "0000000000"):
            self.assertEqual(read_lane("0" + "10010" + "111" + free, 5, 4, table), ((0, 0, 0, 0, 3), 9))

    def test_bits_that_are_too_short(self):
        table = Table([(1, 0), (3, 1), (3, 0)], (2, 3))
        lane = "0" + "1101" + "10010" + "111"
        for end in range(len(lane)):
            self.assertEqual(told(read_lane, lane[:end], 6, 4, table), end)

    def test_64_numbers(self):
        table = Table([(1, 0), (2, 0)], (2, 5))
        self.assertEqual(read_lane("1111111" * 2, 64, 2, table), ((0,) * 64, 14))
        self.assertEqual(read_lane("10" * 64, 64, 2, table), ((1,) * 64, 128))
        self.assertEqual(told(read_lane, "0" * 63 + "1100001", 64, 2, table), 69)
        self.assertEqual(told(read_lane, "0" * 63 + "1100000", 64, 2, table), ((0,) * 64, 70))

    def test_great_moduli(self):
        table = Table([(0, 16)])
        self.assertEqual(read_lane("1" * 16, 1, 65536, table), ((65535,), 16))
        self.assertEqual(told(read_lane, "1" * 16, 1, 65535, table), 15)
        self.assertEqual(told(read_lane, "1" * 15 + "0", 1, 65535, table), ((65534,), 16))
        table = Table.ladder(0, True, 65536)
        last = table.literal(65535)
        self.assertEqual(read_lane(last + table.repetition(8), 9, 65536, table), ((65535,) * 9, len(last) + 5))
        # The last rung starts at 2047: 65535 is 1111100000000000 in it, and 65534 is 1111011111111111.
        self.assertEqual(last, "1" * 12 + "1111100000000000")
        self.assertEqual(told(read_lane, last, 1, 65535, table), 16)
        self.assertEqual(told(read_lane, "1" * 12 + "1111011111111111", 1, 65535, table), ((65534,), 28))

    def test_all_small_lanes(self):
        for rungs, repeat, moduli in SMALL:
            table = Table(rungs, repeat)
            for modulus in moduli:
                for count in COUNTS:
                    lanes = coded_lanes(count, modulus, rungs, repeat)
                    for lane, numbers in lanes.items():
                        self.assertEqual(read_lane(lane, count, modulus, table), (numbers, len(lane)))
                        self.assertEqual(read_lane(lane + "10", count, modulus, table), (numbers, len(lane)))

    def test_all_short_bit_strings(self):
        for rungs, repeat, moduli in SMALL:
            table = Table(rungs, repeat)
            for modulus in moduli:
                for count in COUNTS:
                    lanes = coded_lanes(count, modulus, rungs, repeat)
                    beginnings = beginnings_of(lanes)
                    for bits in all_bits(8):
                        whole = [bits[:end] for end in range(len(bits) + 1) if bits[:end] in lanes]
                        if whole:
                            wanted = (lanes[whole[0]], len(whole[0]))
                        else:
                            wanted = first_refused(bits, beginnings)
                            wanted = len(bits) if wanted is None else wanted
                        self.assertEqual(told(read_lane, bits, count, modulus, table), wanted,
                                         (rungs, repeat, modulus, count, bits))

    def test_no_lane_is_a_beginning_of_another_one(self):
        for rungs, repeat, moduli in SMALL:
            table = Table(rungs, repeat)
            for modulus in moduli:
                for count in COUNTS:
                    for lane in coded_lanes(count, modulus, rungs, repeat):
                        for end in range(len(lane)):
                            self.assertEqual(told(read_lane, lane[:end], count, modulus, table), end)

    def test_lanes_of_any_tokens(self):
        chance = chances(66)
        for _ in range(200):
            rungs, repeat = some_table(chance)
            table = Table(rungs, repeat)
            modulus, count = chance.randint(1, table.total), chance.choice((0, 1, 5, 17, 64))
            tokens, bits = some_lane(chance, count, modulus, rungs, repeat)
            numbers = numbers_of(tokens)
            self.assertEqual(read_lane(bits, count, modulus, table), (numbers, len(bits)))
            least = write_tokens(least_tokens(numbers, table), table)
            self.assertEqual(read_lane(least + bits, count, modulus, table), (numbers, len(least)))

    def test_lanes_that_are_cut_turned_put_in_or_left_out(self):
        chance = chances(67)
        for _ in range(150):
            rungs, repeat = some_table(chance)
            table = Table(rungs, repeat)
            modulus, count = chance.randint(1, table.total), chance.choice((1, 5, 17))
            _, bits = some_lane(chance, count, modulus, rungs, repeat)
            at = chance.randrange(len(bits))
            turned = "1" if bits[at] == "0" else "0"
            for hurt in (bits[:at], bits[:at] + turned + bits[at + 1:], bits[:at] + turned + bits[at:],
                         bits[:at] + bits[at + 1:]):
                self.assert_read(hurt, count, modulus, rungs, repeat)

    def assert_read(self, bits, count, modulus, rungs, repeat):
        """Compare reading bits with trying the tokens one after the other."""
        got = told(read_lane, bits, count, modulus, Table(rungs, repeat))
        tokens, used, whole = tokens_of_bits(bits, count, modulus, rungs, repeat)
        if whole:
            self.assertEqual(got, (numbers_of(tokens), used))
            return
        left = count - len(numbers_of(tokens))
        allowed = list(literals_by_hand(rungs, repeat, modulus).values())
        allowed += [bits_ for number, bits_ in repetitions_by_hand(rungs, repeat).items() if number <= left]
        end = used
        while end < len(bits) and any(token.startswith(bits[used:end + 1]) for token in allowed):
            end += 1
        self.assertEqual(got, end, (bits, count, modulus, rungs, repeat))


class CompleteTest(unittest.TestCase):
    def test_the_example_of_the_document(self):
        self.assertEqual(complete_lane("1", 1, 5, OF_THREE_BITS), "100")

    def test_whole_lanes_stay(self):
        for number in range(5):
            self.assertEqual(complete_lane(f"{number:03b}", 1, 5, OF_THREE_BITS), f"{number:03b}")

    def test_bits_behind_a_lane_are_refused(self):
        for bits, at in (("1000", 3), ("0001", 3), ("01000000", 3)):
            with self.assertRaises(BadBits) as caught:
                complete_lane(bits, 1, 5, OF_THREE_BITS)
            self.assertEqual(caught.exception.at, at)

    def test_bits_that_no_lane_begins_with(self):
        for bits, at in (("11", 1), ("101", 2), ("1100", 1), ("1011", 2)):
            with self.assertRaises(BadBits) as caught:
                complete_lane(bits, 1, 5, OF_THREE_BITS)
            self.assertEqual(caught.exception.at, at)

    def test_nothing_is_completed_too(self):
        self.assertEqual(complete_lane("", 3, 5, OF_THREE_BITS), "000000000")
        self.assertEqual(complete_lane("", 2, 4, Table([(1, 0), (3, 1), (3, 0)], (2, 3))), "00")
        self.assertEqual(complete_lane("", 9, 2, Table([(2, 0), (2, 0)], (1, 3))), "0000" * 9)

    def test_the_least_lane_need_not_be_the_shortest_or_the_one_of_zeros(self):
        table = Table([(2, 0), (2, 0)], (1, 1))
        self.assertEqual(complete_lane("", 2, 2, table), "0000")
        self.assertEqual(complete_lane("01", 2, 2, table), "01")
        self.assertEqual(complete_lane("1", 2, 2, table), "1000")
        # The word that begins with 0 belongs to a rung whose numbers are too great for the modulus.
        table = Table([(3, 0), (1, 1), (3, 0)], (2, 0))
        self.assertEqual(complete_lane("", 1, 1, table), "10")
        self.assertEqual(complete_lane("11", 1, 1, table), "110")
        self.assertEqual(told(complete_lane, "111", 1, 1, table), 2)
        self.assertEqual(told(complete_lane, "0", 1, 1, table), 0)

    def test_lanes_that_need_no_bits(self):
        for count in (0, 1, 64):
            self.assertEqual(complete_lane("", count, 1, ONE_NUMBER), "")
            self.assertEqual(told(complete_lane, "0", count, 1, ONE_NUMBER), 0)
            self.assertEqual(told(complete_lane, "11", count, 1, ONE_NUMBER), 0)
        self.assertEqual(complete_lane("", 0, 5, OF_THREE_BITS), "")
        self.assertEqual(told(complete_lane, "0", 0, 5, OF_THREE_BITS), 0)

    def test_all_short_bit_strings(self):
        for rungs, repeat, moduli in SMALL:
            table = Table(rungs, repeat)
            for modulus in moduli:
                for count in COUNTS:
                    lanes = sorted(coded_lanes(count, modulus, rungs, repeat))
                    beginnings = beginnings_of(lanes)
                    for bits in all_bits(6):
                        wanted = first_refused(bits, beginnings)
                        if wanted is None:
                            wanted = next(lane for lane in lanes if lane.startswith(bits))
                        self.assertEqual(told(complete_lane, bits, count, modulus, table), wanted,
                                         (rungs, repeat, modulus, count, bits))

    def test_64_numbers(self):
        self.assertEqual(complete_lane("1" * 16, 64, 65536, Table([(0, 16)])), "1" * 16 + "0" * 16 * 63)
        table = Table(FIFTEEN, (15, 5))
        self.assertEqual(complete_lane("1" * 15, 64, 15, table), "1" * 15 + "0" * 5 + "0" * 63)


class ScannerTest(unittest.TestCase):
    def test_it_takes_bits_until_the_lane_is_whole(self):
        scanner = Scanner(2, 5, OF_THREE_BITS)
        self.assertEqual((scanner.done, scanner.numbers, scanner.used), (False, (), 0))
        self.assertEqual(scanner.feed("10"), 2)
        self.assertEqual((scanner.done, scanner.numbers, scanner.used), (False, (), 2))
        self.assertEqual(scanner.feed("0"), 1)
        self.assertEqual((scanner.done, scanner.numbers, scanner.used), (False, (4,), 3))
        self.assertEqual(scanner.feed("01111"), 3)
        self.assertEqual((scanner.done, scanner.numbers, scanner.used), (True, (4, 3), 6))
        self.assertEqual(scanner.feed("0101"), 0)
        self.assertEqual((scanner.done, scanner.numbers, scanner.used), (True, (4, 3), 6))

    def test_the_kinds_of_what_it_tells(self):
        scanner = Scanner(3, 2, Table([(1, 0), (2, 0)], (2, 1)))
        taken = scanner.feed("0110")
        self.assertIs(type(scanner.done), bool)
        self.assertIs(type(scanner.numbers), tuple)
        self.assertTrue(are_plain_integers((taken, scanner.numbers, scanner.used)))
        scanner.feed("10")
        self.assertIs(scanner.done, True)
        self.assertTrue(are_plain_integers((scanner.numbers, scanner.used)))

    def test_no_bits_at_all(self):
        scanner = Scanner(2, 5, OF_THREE_BITS)
        self.assertEqual(scanner.feed(""), 0)
        self.assertEqual((scanner.done, scanner.numbers, scanner.used), (False, (), 0))

    def test_numbers_come_with_whole_tokens(self):
        scanner = Scanner(6, 4, Table([(1, 0), (3, 1), (3, 0)], (2, 3)))
        seen = []
        for bit in "0" + "1101" + "10010" + "111":
            self.assertEqual(scanner.feed(bit), 1)
            seen.append(scanner.numbers)
        wanted = [(0,)] * 4 + [(0, 2)] * 5 + [(0, 2, 2, 2, 2)] * 3 + [(0, 2, 2, 2, 2, 3)]
        self.assertEqual(seen, wanted)

    def test_lanes_that_are_whole_before_any_bit(self):
        for count in (0, 1, 64):
            scanner = Scanner(count, 1, ONE_NUMBER)
            self.assertEqual((scanner.done, scanner.numbers, scanner.used), (True, (0,) * count, 0))
            self.assertEqual(scanner.feed("01"), 0)
            self.assertEqual((scanner.done, scanner.numbers, scanner.used), (True, (0,) * count, 0))
        for table in (OF_THREE_BITS, Table([(1, 0)], (1, 5))):
            scanner = Scanner(0, 1, table)
            self.assertEqual((scanner.done, scanner.numbers, scanner.feed("1"), scanner.used), (True, (), 0, 0))

    def test_a_refused_bit_is_not_taken(self):
        scanner = Scanner(2, 5, OF_THREE_BITS)
        for _ in range(2):
            with self.assertRaises(BadBits) as caught:
                scanner.feed("11" if scanner.used == 0 else "1")
            self.assertEqual(caught.exception.at, 1)
            self.assertEqual((scanner.done, scanner.numbers, scanner.used), (False, (), 1))
        self.assertEqual(scanner.feed("00"), 2)
        self.assertEqual((scanner.done, scanner.numbers, scanner.used), (False, (4,), 3))

    def test_bits_before_the_refused_one_stay_and_those_behind_are_not_taken(self):
        scanner = Scanner(3, 5, OF_THREE_BITS)
        with self.assertRaises(BadBits) as caught:
            scanner.feed("01010100000")
        self.assertEqual(caught.exception.at, 5)
        self.assertEqual((scanner.done, scanner.numbers, scanner.used), (False, (2,), 5))
        self.assertEqual(scanner.feed("0011000"), 4)
        self.assertEqual((scanner.done, scanner.numbers, scanner.used), (True, (2, 4, 3), 9))

    def test_a_repetition_beyond_the_lane_is_refused(self):
        scanner = Scanner(3, 2, Table([(1, 0), (2, 0)], (2, 2)))
        scanner.feed("10" + "11")
        with self.assertRaises(BadBits) as caught:
            scanner.feed("11")
        self.assertEqual((caught.exception.at, scanner.used), (4, 4))
        with self.assertRaises(BadBits) as caught:
            scanner.feed("1")
        self.assertEqual((caught.exception.at, scanner.used, scanner.numbers), (4, 4, (1,)))
        self.assertEqual(scanner.feed("01"), 2)
        self.assertEqual((scanner.done, scanner.numbers), (True, (1, 1, 1)))
        scanner = Scanner(3, 2, Table([(1, 0), (2, 0)], (2, 2)))
        self.assertEqual(scanner.feed("10" + "1101"), 6)
        self.assertEqual((scanner.done, scanner.numbers), (True, (1, 1, 1)))

    def test_any_pieces_have_the_same_effect(self):
        chance = chances(68)
        for _ in range(150):
            rungs, repeat = some_table(chance)
            table = Table(rungs, repeat)
            modulus, count = chance.randint(1, table.total), chance.choice((0, 1, 5, 17, 64))
            _, bits = some_lane(chance, count, modulus, rungs, repeat)
            for text in (bits + "0110", bits[:chance.randint(0, len(bits))],
                         "".join(chance.choice("01") for _ in range(40))):
                wanted = self.fed_in(count, modulus, table, [text])
                self.assertEqual(self.fed_in(count, modulus, table, list(text)), wanted)
                cuts = sorted(chance.randint(0, len(text)) for _ in range(5))
                pieces = [text[first:end] for first, end in zip([0, *cuts], [*cuts, len(text)])]
                self.assertEqual("".join(pieces), text)
                self.assertEqual(self.fed_in(count, modulus, table, pieces), wanted)

    def fed_in(self, count, modulus, table, pieces):
        """Return what a scanner tells after pieces of bits, up to the first refused one."""
        scanner = Scanner(count, modulus, table)
        taken, at = 0, None
        for piece in pieces:
            before = scanner.used
            try:
                taken += scanner.feed(piece)
            except BadBits as error:
                at = error.at
                self.assertEqual(at, scanner.used)
                taken += scanner.used - before
                break
        self.assertEqual(taken, scanner.used)
        return scanner.done, scanner.numbers, scanner.used, at

    def test_it_tells_what_reading_tells(self):
        chance = chances(69)
        for _ in range(200):
            rungs, repeat = some_table(chance)
            table = Table(rungs, repeat)
            modulus, count = chance.randint(1, table.total), chance.choice((0, 1, 2, 5))
            bits = "".join(chance.choice("01") for _ in range(chance.randrange(30)))
            done, numbers, used, at = self.fed_in(count, modulus, table, [bits])
            wanted = (numbers, used) if done else used
            self.assertEqual(told(read_lane, bits, count, modulus, table), wanted)
            if not done and at is None:
                self.assertEqual(used, len(bits))

    def test_reading_what_it_tells_changes_nothing(self):
        scanner = Scanner(3, 5, OF_THREE_BITS)
        scanner.feed("0100")
        before = (scanner.done, scanner.numbers, scanner.used)
        self.assertEqual((scanner.done, scanner.numbers, scanner.used), before)
        numbers = scanner.numbers
        scanner.feed("01")
        self.assertEqual((numbers, scanner.numbers), ((2,), (2, 1)))

    def test_two_scanners_do_not_touch_each_other(self):
        one, other = Scanner(2, 5, OF_THREE_BITS), Scanner(2, 5, OF_THREE_BITS)
        one.feed("1")
        self.assertEqual((one.used, other.used), (1, 0))
        other.feed("010")
        self.assertEqual((one.numbers, other.numbers), ((), (2,)))


if __name__ == "__main__":
    unittest.main()
