"""Points 34 to 38, and what it means to serve a modulus (point 55): tables."""

import unittest

from keptpictures.codes.table import Table, width_of
from keptpictures.errors import BadTable, KeepError, NoRung
from tests.codes_by_hand import (ladder_by_hand, literals_by_hand, repetitions_by_hand, starts_by_hand,
                                 words_by_hand)
from tests.helpers import are_plain_integers, chances

MODULI = (1, 2, 3, 4, 5, 8, 9, 16, 17, 64, 255, 256, 257, 2047, 2048, 4095, 4096, 65535, 65536)
# One rung of each length from 1 to 15; what is missing is one more entry of the length 15.
FIFTEEN = [(length, 0) for length in range(1, 16)]


def some_table(chance):
    """Return the rungs and the repeat of a table, made by splitting bits into two again and again."""
    lengths = [0]
    for _ in range(chance.randrange(16)):
        place = chance.randrange(len(lengths))
        if lengths[place] < 15:
            lengths[place] += 1
            lengths.append(lengths[place])
    chance.shuffle(lengths)
    repeat = None
    if len(lengths) > 15 or len(lengths) > 1 and chance.random() < 0.5:
        repeat = (lengths.pop(), chance.randrange(6))
    return [(length, chance.choice((0, 1, 2, 3, 7, 16))) for length in lengths], repeat


class WidthTest(unittest.TestCase):
    def test_examples(self):
        got = [width_of(modulus) for modulus in (1, 2, 3, 4, 5, 8, 9, 32768, 32769, 65535, 65536)]
        self.assertEqual(got, [0, 1, 2, 2, 3, 3, 4, 15, 16, 16, 16])
        self.assertTrue(are_plain_integers(got))

    def test_it_is_the_least_one(self):
        for modulus in range(1, 3000):
            width = width_of(modulus)
            self.assertGreaterEqual(2 ** width, modulus)
            self.assertTrue(width == 0 or 2 ** (width - 1) < modulus)


class TableTest(unittest.TestCase):
    def test_attributes(self):
        table = Table([(1, 0), (2, 1)], (2, 3))
        self.assertEqual((table.rungs, table.repeat), (((1, 0), (2, 1)), (2, 3)))
        self.assertEqual((table.starts, table.total), ((0, 1), 3))
        self.assertEqual(Table.LONGEST, 15)
        self.assertEqual(table.LONGEST, 15)
        for value in (table.rungs, table.starts, table.words):
            self.assertIs(type(value), tuple)
        self.assertTrue(are_plain_integers((table.rungs, table.repeat, table.starts, table.total)))

    def test_the_codewords_of_the_example(self):
        self.assertEqual(Table([(1, 0), (2, 1)], (2, 3)).words, ("0", "10", "11"))

    def test_a_repeat_is_not_needed(self):
        table = Table([(1, 2), (1, 0)])
        self.assertIsNone(table.repeat)
        self.assertEqual((table.starts, table.total, table.words), ((0, 4), 5, ("0", "1")))
        self.assertEqual(Table([(1, 2), (1, 0)], None), table)
        self.assertEqual(Table(rungs=[(1, 2)], repeat=(1, 0)).words, ("0", "1"))

    def test_one_rung(self):
        for width in (0, 1, 15, 16):
            table = Table([(0, width)])
            self.assertEqual((table.starts, table.total, table.words), ((0,), 2 ** width, ("",)))

    def test_fifteen_rungs(self):
        table = Table(FIFTEEN[:14] + [(14, 16)])
        self.assertEqual(table.starts, tuple(range(15)))
        self.assertEqual(table.total, 14 + 65536)
        self.assertEqual(table.words, tuple("1" * n + "0" for n in range(14)) + ("1" * 14,))

    def test_fifteen_rungs_and_a_repeat(self):
        table = Table(FIFTEEN, (15, 5))
        self.assertEqual(table.words, tuple("1" * n + "0" for n in range(15)) + ("1" * 15,))
        self.assertEqual((table.repeat, table.total), ((15, 5), 15))

    def test_widths_of_sixteen(self):
        table = Table([(4, 16)] * 14 + [(3, 16)])
        self.assertEqual(table.starts, tuple(65536 * n for n in range(15)))
        self.assertEqual(table.total, 15 * 65536)

    def test_codewords_of_equal_lengths_go_by_the_rungs(self):
        self.assertEqual(Table([(2, 0), (2, 0), (2, 0)], (2, 0)).words, ("00", "01", "10", "11"))
        self.assertEqual(Table([(3, 0), (1, 0), (3, 0)], (2, 0)).words, ("110", "0", "111", "10"))
        self.assertEqual(Table([(3, 0), (2, 0), (1, 0)], (3, 0)).words, ("110", "10", "0", "111"))
        self.assertEqual(Table([(2, 0), (2, 0)], (1, 0)).words, ("10", "11", "0"))

    def test_codewords_and_starts_by_the_definition(self):
        chance = chances(60)
        for _ in range(300):
            rungs, repeat = some_table(chance)
            table = Table(rungs, repeat)
            self.assertEqual(table.words, words_by_hand(rungs, repeat), (rungs, repeat))
            starts = starts_by_hand(rungs)
            self.assertEqual((table.starts, table.total), (tuple(starts[:-1]), starts[-1]))
            lengths = [length for length, _ in rungs] + ([] if repeat is None else [repeat[0]])
            self.assertEqual([len(word) for word in table.words], lengths)
            for word in table.words:
                self.assertEqual([other for other in table.words if other.startswith(word)], [word])

    def test_equality(self):
        rungs = [(1, 0), (2, 1), (2, 2)]
        table = Table(rungs)
        self.assertTrue(table == Table(tuple(rungs)))
        self.assertFalse(table != Table(rungs))
        others = [Table([(1, 0), (2, 1)], (2, 2)), Table([(1, 0), (2, 2), (2, 1)]), Table([(2, 0), (1, 1), (2, 2)]),
                  Table([(1, 0), (2, 1), (2, 3)]), Table([(0, 3)])]
        for other in others:
            self.assertFalse(table == other)
            self.assertTrue(table != other)
        self.assertFalse(Table([(1, 0)], (1, 0)) == Table([(1, 0), (1, 0)]))
        self.assertFalse(Table([(1, 0)], (1, 0)) == Table([(1, 0)], (1, 1)))

    def test_a_table_equals_nothing_but_tables(self):
        table = Table([(1, 0), (1, 1)])
        for other in (table.rungs, (table.rungs, None), list(table.rungs), 0, None, "", True, (), table.words):
            self.assertFalse(table == other)
            self.assertFalse(other == table)


class BadTableTest(unittest.TestCase):
    def refused(self, rungs, repeat=None):
        with self.assertRaises(BadTable) as caught:
            Table(rungs, repeat)
        self.assertIsInstance(caught.exception, KeepError)

    def test_there_is_a_rung(self):
        self.refused([])
        self.refused((), None)
        self.refused([], (0, 0))
        self.refused([], (1, 0))

    def test_there_are_at_most_fifteen_rungs(self):
        self.refused([(4, 0)] * 16)
        self.refused(FIFTEEN + [(15, 0)])
        self.refused([(4, 0)] * 14 + [(5, 0)] * 4)
        self.refused([(5, 0)] * 8 + [(4, 0)] * 12)
        self.refused(FIFTEEN + [(15, 0)], (15, 0))

    def test_lengths(self):
        for length in (-100, -2, -1, 16, 17, 100):
            self.refused([(length, 0)])
            self.refused([(1, 0), (1, 0), (length, 0)])
            self.refused([(length, 0), (1, 0)], (1, 0))
            self.refused([(1, 0)], (length, 0))
            self.refused([(1, 0), (1, 0)], (length, 0))
        self.refused(FIFTEEN[:14] + [(15, 0), (16, 0)], (16, 0))
        self.refused(FIFTEEN[:14] + [(16, 0)], (15, 0))

    def test_widths_of_rungs(self):
        for width in (-100, -1, 17, 100):
            self.refused([(0, width)])
            self.refused([(1, 0), (1, width)])
            self.refused([(1, width)], (1, 0))
        for width in (0, 16):
            self.assertEqual(Table([(1, 1), (1, width)]).rungs, ((1, 1), (1, width)))

    def test_widths_of_repeats(self):
        for width in (-100, -1, 6, 16, 100):
            self.refused([(1, 0)], (1, width))
        for width in (0, 5):
            self.assertEqual(Table([(1, 0)], (1, width)).repeat, (1, width))

    def test_sums_just_below(self):
        self.refused(FIFTEEN)
        self.refused(FIFTEEN[:14], (15, 0))
        self.refused([(1, 0)])
        self.refused([(15, 0)])
        self.refused([(1, 0), (2, 0)], (3, 0))
        self.assertEqual(len(Table(FIFTEEN, (15, 0)).words), 16)

    def test_sums_just_above(self):
        self.refused(FIFTEEN[:14] + [(14, 0)], (15, 0))
        self.refused(FIFTEEN[:13] + [(13, 0), (15, 0)])
        self.refused([(0, 0)], (15, 0))
        self.refused([(0, 0), (15, 0)])
        self.refused([(0, 0)], (0, 0))
        self.refused([(0, 0), (0, 0)])
        self.refused([(1, 0), (1, 0)], (1, 0))
        self.assertEqual(len(Table(FIFTEEN[:14] + [(14, 0)]).words), 15)

    def test_the_repeat_counts_in_the_sum(self):
        self.refused([(1, 0), (1, 0)], (15, 0))
        self.assertEqual(Table([(1, 0)], (1, 0)).words, ("0", "1"))


class LiteralTest(unittest.TestCase):
    def test_at_the_start_at_the_end_and_beyond_each_rung(self):
        table = Table([(1, 0), (3, 2), (2, 3)], (3, 1))
        wanted = {0: "0", 1: "11000", 2: "11001", 4: "11011", 5: "10000", 6: "10001", 12: "10111"}
        self.assertEqual({number: table.literal(number) for number in wanted}, wanted)
        self.assertEqual(table.total, 13)
        for number in (13, 14, 100, 10 ** 9):
            with self.assertRaises(NoRung) as caught:
                table.literal(number)
            self.assertEqual(caught.exception.number, number)

    def test_all_numbers_by_the_definition(self):
        chance = chances(61)
        for _ in range(100):
            rungs, repeat = some_table(chance)
            table = Table(rungs, repeat)
            starts = starts_by_hand(rungs)
            literals = literals_by_hand(rungs, repeat, 200)
            for number, literal in literals.items():
                self.assertEqual(table.literal(number), literal)
            for place, (length, width) in enumerate(rungs):
                word = words_by_hand(rungs, repeat)[place]
                self.assertEqual(table.literal(starts[place]), word + "0" * width)
                self.assertEqual(table.literal(starts[place + 1] - 1), word + "1" * width)
            for number in (starts[-1], starts[-1] + 1, starts[-1] + 10 ** 9):
                with self.assertRaises(NoRung) as caught:
                    table.literal(number)
                self.assertEqual(caught.exception.number, number)

    def test_no_bits_and_many_bits(self):
        self.assertEqual(Table([(0, 0)]).literal(0), "")
        self.assertEqual(Table([(0, 16)]).literal(0), "0" * 16)
        self.assertEqual(Table([(0, 16)]).literal(65535), "1" * 16)
        self.assertEqual(Table([(0, 16)]).literal(1), "0" * 15 + "1")
        self.assertEqual(Table(FIFTEEN, (15, 0)).literal(14), "1" * 14 + "0")
        table = Table(FIFTEEN[:14] + [(15, 16)], (15, 5))
        self.assertEqual(table.literal(14 + 65535), "1" * 14 + "0" + "1" * 16)

    def test_a_table_of_one_number_covers_no_other(self):
        with self.assertRaises(NoRung) as caught:
            Table([(0, 0)]).literal(1)
        self.assertEqual(caught.exception.number, 1)


class RepetitionTest(unittest.TestCase):
    def test_the_least_and_the_greatest(self):
        table = Table([(1, 0), (2, 0)], (2, 3))
        self.assertEqual([table.repetition(number) for number in (1, 2, 7, 8)], ["11000", "11001", "11110", "11111"])
        self.assertEqual(Table([(2, 0), (2, 0)], (1, 0)).repetition(1), "0")
        self.assertEqual(Table([(1, 0)], (1, 5)).repetition(32), "111111")

    def test_zero_and_one_more_than_the_greatest(self):
        for width in range(6):
            table = Table([(1, 3)], (1, width))
            for number in (0, 2 ** width + 1, 2 ** width + 2, 100, 1000):
                with self.assertRaises(NoRung) as caught:
                    table.repetition(number)
                self.assertEqual(caught.exception.number, number)

    def test_all_of_them_by_the_definition(self):
        chance = chances(62)
        for _ in range(100):
            rungs, repeat = some_table(chance)
            table = Table(rungs, repeat)
            for number, bits in repetitions_by_hand(rungs, repeat).items():
                self.assertEqual(table.repetition(number), bits)

    def test_without_a_repeat_there_are_none(self):
        for rungs in ([(0, 3)], [(1, 0), (1, 0)], FIFTEEN[:14] + [(14, 5)]):
            for number in (0, 1, 2, 32, 1000):
                with self.assertRaises(NoRung) as caught:
                    Table(rungs).repetition(number)
                self.assertEqual(caught.exception.number, number)


class ServesTest(unittest.TestCase):
    def test_from_the_last_start_to_the_total(self):
        table = Table([(1, 0), (2, 2), (2, 1)])
        self.assertEqual(table.starts, (0, 1, 5))
        got = [table.serves(modulus) for modulus in range(1, 10)]
        self.assertEqual(got, [False] * 5 + [True, True, False, False])
        for value in got:
            self.assertIs(type(value), bool)

    def test_one_rung(self):
        self.assertEqual([Table([(0, 2)]).serves(modulus) for modulus in (1, 2, 4, 5)], [True, True, True, False])
        self.assertEqual([Table([(0, 0)]).serves(modulus) for modulus in (1, 2)], [True, False])
        self.assertEqual([Table([(0, 16)]).serves(modulus) for modulus in (1, 65536)], [True, True])

    def test_the_repeat_does_not_matter(self):
        table = Table([(1, 0)], (1, 5))
        self.assertEqual([table.serves(modulus) for modulus in (1, 2, 33)], [True, False, False])

    def test_great_moduli(self):
        table = Table(FIFTEEN[:14] + [(14, 16)])
        self.assertEqual([table.serves(modulus) for modulus in (14, 15, 65535, 65536)], [False, True, True, True])
        self.assertFalse(Table([(1, 15), (1, 14)]).serves(65535))
        self.assertFalse(Table([(1, 16), (1, 0)]).serves(65536))


class LadderTest(unittest.TestCase):
    def test_the_preset_of_the_example(self):
        table = Table.preset(1, 4)
        self.assertEqual((table.rungs, table.repeat), (((1, 0), (3, 1), (3, 0)), (2, 3)))

    def test_examples(self):
        self.assertEqual(Table.ladder(0, False, 4), Table([(1, 0), (2, 1), (2, 0)]))
        self.assertEqual(Table.ladder(1, False, 10), Table([(1, 1), (2, 2), (2, 2)]))
        self.assertEqual(Table.ladder(1, True, 10), Table([(1, 1), (3, 2), (3, 2)], (2, 3)))
        self.assertEqual(Table.ladder(2, False, 4), Table([(0, 2)]))
        self.assertEqual(Table.ladder(2, True, 4), Table([(1, 2)], (1, 3)))

    def test_the_last_rung_is_only_as_wide_as_the_modulus_asks_for(self):
        self.assertEqual(Table.ladder(16, False, 4), Table([(0, 2)]))
        self.assertEqual(Table.ladder(0, False, 1), Table([(0, 0)]))
        self.assertEqual(Table.ladder(0, True, 1), Table([(1, 0)], (1, 3)))
        self.assertEqual(Table.ladder(16, True, 65536), Table([(1, 16)], (1, 3)))
        self.assertEqual(Table.ladder(15, False, 65536), Table([(1, 15), (1, 15)]))
        self.assertEqual(Table.ladder(15, False, 32769), Table([(1, 15), (1, 0)]))
        self.assertEqual(Table.ladder(15, False, 32768), Table([(0, 15)]))

    def test_at_most_eleven_rungs_come_before_the_last_one(self):
        table = Table.ladder(0, True, 65536)
        widths = [width for _, width in table.rungs]
        self.assertEqual(widths, list(range(11)) + [16])
        self.assertEqual([length for length, _ in table.rungs], [1] + list(range(3, 13)) + [12])
        self.assertEqual(table.repeat, (2, 3))
        self.assertEqual([width for _, width in Table.ladder(0, False, 2048).rungs], list(range(11)) + [0])
        self.assertEqual([width for _, width in Table.ladder(0, False, 2047).rungs], list(range(11)))
        self.assertEqual([width for _, width in Table.ladder(0, False, 4096).rungs], list(range(11)) + [12])

    def test_all_ladders_by_the_definition(self):
        for modulus in MODULI:
            for first in range(17):
                for repeats in (False, True):
                    table = Table.ladder(first, repeats, modulus)
                    rungs, repeat = ladder_by_hand(first, repeats, modulus)
                    self.assertEqual((table.rungs, table.repeat), (rungs, repeat), (modulus, first, repeats))
                    self.assertTrue(table.serves(modulus))
                    self.assertTrue(are_plain_integers(table.rungs))

    def test_all_presets_are_ladders(self):
        for modulus in MODULI:
            for number in range(34):
                wanted = Table.ladder(number // 2, number % 2 == 1, modulus)
                self.assertEqual(Table.preset(number, modulus), wanted)


class SharingTest(unittest.TestCase):
    def test_the_rungs_that_were_passed_stay_and_are_not_kept(self):
        rungs = [(1, 0), (1, 2)]
        table = Table(rungs)
        self.assertEqual(rungs, [(1, 0), (1, 2)])
        rungs[0] = (2, 5)
        rungs.append((2, 0))
        self.assertEqual((table.rungs, table.starts, table.total), (((1, 0), (1, 2)), (0, 1), 5))
        self.assertEqual((table.literal(4), table), ("111", Table([(1, 0), (1, 2)])))

    def test_refused_rungs_stay(self):
        rungs = [(1, 0), (1, 17)]
        with self.assertRaises(BadTable):
            Table(rungs, (1, 0))
        self.assertEqual(rungs, [(1, 0), (1, 17)])

    def test_a_refused_number_changes_nothing(self):
        table = Table([(1, 0), (1, 2)])
        for call in (table.literal, table.repetition):
            with self.assertRaises(NoRung):
                call(5)
        self.assertEqual(table, Table([(1, 0), (1, 2)]))
        self.assertEqual(table.literal(4), "111")


if __name__ == "__main__":
    unittest.main()
