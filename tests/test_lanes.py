"""Points 31 and 33: residuals, and the numbers of lanes."""

import unittest
from itertools import product

from keptpictures.filters.folds import unfold
from keptpictures.filters.lanes import lane_numbers, sheet_numbers, sheet_of_numbers
from keptpictures.passes.tracks import tracks
from keptpictures.sheets.sheet import Sheet
from tests.filters_by_hand import numbers_by_hand
from tests.helpers import are_plain_integers, chances, some_sheet
from tests.passes_by_hand import SIZES

SOME_WORDS = ("", "a", "d", "da", "adadad", "aaaaaa", "dddddd")


def some_filters(chance, width, height, word):
    """Return a filter for each track."""
    return [chance.randrange(8) for _ in tracks(width, height, word)]


def some_numbers(chance, modulus, width, height, word):
    """Return numbers for each track."""
    return [tuple(chance.randrange(modulus) for _ in range(track[4])) for track in tracks(width, height, word)]


class LaneTest(unittest.TestCase):
    def test_an_example(self):
        sheet = Sheet(10, [[3, 4, 4, 2]])
        track = (0, 0, 0, 1, 4)
        self.assertEqual(lane_numbers(sheet, track, 0, ""), (6, 8, 8, 4))
        self.assertEqual(lane_numbers(sheet, track, 1, ""), (6, 2, 0, 3))
        self.assertEqual(lane_numbers(sheet, track, 6, ""), (6, 3, 1, 3))
        self.assertEqual(lane_numbers(sheet, track, 2, ""), (6, 8, 8, 4))

    def test_lanes_of_several_passes(self):
        sheet = Sheet(10, [[3, 4, 5], [0, 9, 1]])
        listed = list(tracks(3, 2, "a"))
        got = [lane_numbers(sheet, track, 5, "a") for track in listed]
        self.assertEqual(got, [(6, 9), (0, 2), (1,), (3,)])
        got = [lane_numbers(sheet, track, 2, "a") for track in listed]
        self.assertEqual(got, [(6, 9), (5, 7), (8,), (9,)])

    def test_it_is_a_tuple_of_integers(self):
        got = lane_numbers(Sheet(2, [[1, 0, 1]]), (0, 0, 0, 1, 3), 1, "")
        self.assertIs(type(got), tuple)
        self.assertTrue(are_plain_integers(got))

    def test_every_filter_by_the_definition(self):
        chance = chances(48)
        for width, height in SIZES:
            for word in SOME_WORDS:
                modulus = chance.choice((1, 2, 3, 10, 64, 65535, 65536))
                sheet = some_sheet(chance, modulus, width, height)
                filters = some_filters(chance, width, height, word)
                wanted = numbers_by_hand(sheet, word, filters)
                self.assertEqual(sheet_numbers(sheet, word, filters), wanted, (width, height, word))
                listed = list(tracks(width, height, word))
                got = [lane_numbers(sheet, track, number, word) for track, number in zip(listed, filters)]
                self.assertEqual(got, wanted)

    def test_all_filters_of_each_track(self):
        chance = chances(49)
        for word in SOME_WORDS:
            sheet = some_sheet(chance, 1000, 9, 11)
            many = len(list(tracks(9, 11, word)))
            for number in range(8):
                filters = [number] * many
                self.assertEqual(sheet_numbers(sheet, word, filters), numbers_by_hand(sheet, word, filters))


class ResidualTest(unittest.TestCase):
    def test_the_residuals_of_a_sum(self):
        chance = chances(50)
        for modulus in (1, 2, 7, 64, 65535, 65536):
            for word in ("", "ad", "dda"):
                one, other = some_sheet(chance, modulus, 6, 5), some_sheet(chance, modulus, 6, 5)
                filters = some_filters(chance, 6, 5, word)
                rows = [[[unfold(number, modulus) for number in lane] for lane in sheet_numbers(sheet, word, filters)]
                        for sheet in (one, other, one + other)]
                for first, second, both in zip(*rows):
                    self.assertEqual([(a + b) % modulus for a, b in zip(first, second)], both)


class SheetOfNumbersTest(unittest.TestCase):
    def test_an_example(self):
        got = sheet_of_numbers(10, 4, 1, "", [1], [(6, 2, 0, 3)])
        self.assertEqual(got, Sheet(10, [[3, 4, 4, 2]]))
        got = sheet_of_numbers(10, 3, 2, "a", [5] * 4, [(6, 9), (0, 2), (1,), (3,)])
        self.assertEqual(got, Sheet(10, [[3, 4, 5], [0, 9, 1]]))

    def test_the_numbers_determine_the_sheet(self):
        chance = chances(51)
        for width, height in SIZES:
            for word in SOME_WORDS:
                modulus = chance.choice((1, 2, 3, 10, 64, 65535, 65536))
                sheet = some_sheet(chance, modulus, width, height)
                filters = some_filters(chance, width, height, word)
                numbers = sheet_numbers(sheet, word, filters)
                self.assertEqual(sheet_of_numbers(modulus, width, height, word, filters, numbers), sheet)

    def test_every_choice_of_numbers_comes_from_a_sheet(self):
        chance = chances(52)
        for width, height in SIZES:
            for word in SOME_WORDS:
                modulus = chance.choice((1, 2, 3, 10, 64, 65535, 65536))
                filters = some_filters(chance, width, height, word)
                numbers = some_numbers(chance, modulus, width, height, word)
                sheet = sheet_of_numbers(modulus, width, height, word, filters, numbers)
                self.assertEqual((sheet.modulus, sheet.width, sheet.height), (modulus, width, height))
                self.assertTrue(all(0 <= sample < modulus for row in sheet for sample in row))
                self.assertEqual(numbers_by_hand(sheet, word, filters), numbers)

    def test_and_from_exactly_one(self):
        for word, filters in (("", (4, 4)), ("", (6, 3)), ("a", (1, 7, 5, 5)), ("d", (6, 5)), ("ad", (0, 5, 4))):
            lengths = [track[4] for track in tracks(2, 2, word)]
            found = []
            for row in product(range(3), repeat=4):
                lanes, rest = [], row
                for length in lengths:
                    lanes.append(rest[:length])
                    rest = rest[length:]
                sheet = sheet_of_numbers(3, 2, 2, word, filters, lanes)
                self.assertEqual(sheet_numbers(sheet, word, filters), lanes)
                found.append(sheet.rows)
            self.assertEqual(len(set(found)), 81)


class SharingTest(unittest.TestCase):
    def test_lists_and_tuples_do_the_same(self):
        sheet = Sheet(10, [[3, 4, 5], [0, 9, 1]])
        numbers = sheet_numbers(sheet, "", [1, 2])
        self.assertEqual(sheet_numbers(sheet, "", (1, 2)), numbers)
        self.assertEqual(sheet_of_numbers(10, 3, 2, "", (1, 2), tuple(numbers)), sheet)
        self.assertEqual(sheet_of_numbers(10, 3, 2, "", [1, 2], list(numbers)), sheet)

    def test_what_was_passed_stays_and_is_not_kept(self):
        filters, numbers = [1, 2], [(6, 2, 2), (5, 9, 7)]
        sheet = sheet_of_numbers(10, 3, 2, "", filters, numbers)
        self.assertEqual((filters, numbers), ([1, 2], [(6, 2, 2), (5, 9, 7)]))
        rows = sheet.rows
        numbers[0] = (0, 0, 0)
        filters.clear()
        self.assertEqual(sheet.rows, rows)

    def test_a_list_that_was_returned_is_not_kept(self):
        sheet = Sheet(10, [[3, 4, 5], [0, 9, 1]])
        filters = [1, 2]
        got = sheet_numbers(sheet, "", filters)
        self.assertIs(type(got), list)
        wanted = list(got)
        got.clear()
        self.assertEqual(sheet_numbers(sheet, "", filters), wanted)
        self.assertEqual(filters, [1, 2])
        self.assertEqual(sheet, Sheet(10, [[3, 4, 5], [0, 9, 1]]))


if __name__ == "__main__":
    unittest.main()
