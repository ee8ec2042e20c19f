"""Point 44: least lengths and least tables."""

import unittest

from keptpictures.codes.lengths import least_lengths, least_table
from keptpictures.codes.table import Table
from keptpictures.errors import KeepError, NoRung
from tests.helpers import are_plain_integers, chances


def joined_by_hand(counts):
    """Return the least lengths: groups are dicts from places to lengths, joined two by two."""
    groups = [{place: 0} for place in range(len(counts))]

    def key(group):
        return sum(counts[place] for place in group), min(group)

    while len(groups) > 1:
        groups.sort(key=key)
        both = {**groups[0], **groups[1]}
        groups = [{place: length + 1 for place, length in both.items()}] + groups[2:]
    return tuple(groups[0][place] for place in range(len(counts)))


def complete_lengths(many, left=2 ** 15):
    """Return all rows of so many complete lengths from 0 to 15."""
    if many == 0:
        return [()] if left == 0 else []
    found = []
    for length in range(16):
        if 2 ** (15 - length) <= left:
            found += [(length,) + rest for rest in complete_lengths(many - 1, left - 2 ** (15 - length))]
    return found


def cost(counts, lengths):
    return sum(count * length for count, length in zip(counts, lengths))


class LeastLengthsTest(unittest.TestCase):
    def test_one_count(self):
        for count in (0, 1, 10 ** 12):
            self.assertEqual(least_lengths((count,)), (0,))

    def test_two_counts(self):
        for counts in ((0, 0), (1, 5), (5, 1), (0, 10 ** 12)):
            self.assertEqual(least_lengths(counts), (1, 1))

    def test_three_counts(self):
        self.assertEqual(least_lengths((1, 2, 4)), (2, 2, 1))
        self.assertEqual(least_lengths((4, 2, 1)), (1, 2, 2))
        self.assertEqual(least_lengths((2, 4, 1)), (2, 1, 2))

    def test_equal_weights_are_joined_by_rank(self):
        # 0 and 1 are joined first; their group weighs 2, so 2 is joined with it.
        self.assertEqual(least_lengths((1, 1, 1)), (2, 2, 1))
        # All groups weigh 2 then, and the joined one has the rank 0.
        self.assertEqual(least_lengths((1, 1, 2, 2)), (3, 3, 2, 1))
        # Here it has the rank 1, between the other two.
        self.assertEqual(least_lengths((2, 1, 1, 2)), (2, 3, 3, 1))
        self.assertEqual(least_lengths((2, 1, 1)), (1, 2, 2))
        # The group of 1 and 2 has the weight 2 and the rank 1, so it comes before place 3, which has weight 2, too.
        self.assertEqual(least_lengths((3, 1, 1, 2)), (1, 3, 3, 2))
        self.assertEqual(least_lengths((1, 1, 2, 3)), (3, 3, 2, 1))

    def test_a_joined_group_has_the_lesser_rank_of_its_two(self):
        # The group of the places 0 and 4 has the weight 2 and the rank 0: it is joined with 1 before 2 and 3 are.
        self.assertEqual(least_lengths((1, 2, 2, 2, 1)), joined_by_hand((1, 2, 2, 2, 1)))
        self.assertEqual(least_lengths((1, 2, 2, 2, 1)), (3, 2, 2, 2, 3))
        self.assertEqual(least_lengths((0, 0, 0)), (2, 2, 1))
        self.assertEqual(least_lengths((0, 0, 0, 0)), (3, 3, 2, 1))

    def test_sixteen_counts(self):
        self.assertEqual(least_lengths((1,) * 16), (4,) * 16)
        self.assertEqual(least_lengths((10 ** 12,) * 16), (4,) * 16)
        doubling = tuple(2 ** place for place in range(16))
        self.assertEqual(least_lengths(doubling), (15,) + tuple(range(15, 0, -1)))
        self.assertEqual(least_lengths((0,) * 16), joined_by_hand((0,) * 16))
        self.assertEqual(max(least_lengths((0,) * 16)), 15)

    def test_chosen_counts_by_joining(self):
        chance = chances(44)
        for _ in range(400):
            top = chance.choice((1, 2, 3, 10, 10 ** 12))
            counts = [chance.randint(0, top) for _ in range(chance.randint(1, 16))]
            told = least_lengths(counts)
            self.assertEqual(told, joined_by_hand(counts), counts)
            self.assertEqual(sum(2 ** (15 - length) for length in told), 2 ** 15)
            self.assertTrue(are_plain_integers(told))
            self.assertIs(type(told), tuple)

    def test_no_complete_lengths_cost_less(self):
        chance = chances(440)
        for many in range(1, 6):
            rows = complete_lengths(many)
            for _ in range(8):
                counts = [chance.choice((0, 1, 2, 3, 7, 20, 10 ** 12)) for _ in range(many)]
                least = min(cost(counts, lengths) for lengths in rows)
                self.assertEqual(cost(counts, least_lengths(counts)), least, counts)

    def test_the_sequence_stays_as_it_is(self):
        counts = [3, 1, 1]
        self.assertEqual(least_lengths(counts), least_lengths((3, 1, 1)))
        self.assertEqual(counts, [3, 1, 1])
        self.assertEqual(least_lengths(counts=counts), (1, 2, 2))


class LeastTableTest(unittest.TestCase):
    def test_the_rungs_have_the_widths_and_the_least_lengths(self):
        # The rungs cover 0, 1 and 2, and 3 to 6.
        table = least_table((0, 1, 2), (0, 0, 0, 0, 1, 3, 6, 0))
        self.assertEqual((table.rungs, table.repeat), (((1, 0), (2, 1), (2, 2)), None))
        self.assertIsInstance(table, Table)

    def test_no_numbers(self):
        self.assertEqual(least_table((0, 0, 3), ()), Table([(2, 0), (2, 0), (1, 3)]))

    def test_one_width(self):
        self.assertEqual(least_table([4], [15, 0, 3]), Table([(0, 4)]))
        self.assertEqual(least_table((0,), (0, 0)), Table([(0, 0)]))
        self.assertEqual(least_table((16,), (65535,)), Table([(0, 16)]))

    def test_fifteen_widths(self):
        numbers = [0] * 5 + [2 ** 16 - 1] + [2 ** 17 - 1] * 3
        table = least_table([16] * 15, numbers)
        self.assertEqual(table.rungs, tuple(zip(joined_by_hand([6, 3] + [0] * 13), [16] * 15)))

    def test_bounds_of_the_rungs(self):
        # The rungs cover 0 to 3, 4 and 5, 6.
        widths = (2, 1, 0)
        self.assertEqual(least_table(widths, (3, 3, 3)).rungs, ((1, 2), (2, 1), (2, 0)))
        self.assertEqual(least_table(widths, (4, 5, 5)).rungs, ((2, 2), (1, 1), (2, 0)))
        self.assertEqual(least_table(widths, (6, 6, 6)).rungs, ((2, 2), (2, 1), (1, 0)))

    def test_chosen_widths_and_numbers(self):
        chance = chances(441)
        for _ in range(100):
            widths = [chance.randint(0, 3) for _ in range(chance.randint(1, 15))]
            rungs = [place for place, width in enumerate(widths) for _ in range(2 ** width)]
            numbers = [chance.randrange(len(rungs)) for _ in range(chance.randint(0, 40))]
            counts = [sum(rungs[number] == place for number in numbers) for place in range(len(widths))]
            table = least_table(widths, numbers)
            self.assertEqual(table.rungs, tuple(zip(joined_by_hand(counts), widths)))
            self.assertIsNone(table.repeat)

    def test_a_number_that_no_rung_covers(self):
        for widths, numbers, first in (((0,), (1,), 1), ((0, 1), (2, 3, 4), 3), ((2, 2), (7, 9, 8), 9),
                                       ((16,), (65536,), 65536), ((3,), (0, 10 ** 9, 8), 10 ** 9)):
            with self.assertRaises(NoRung) as caught:
                least_table(widths, numbers)
            self.assertEqual(caught.exception.number, first)
            self.assertIsInstance(caught.exception, KeepError)

    def test_the_sequences_stay_as_they_are(self):
        widths, numbers = [0, 1], [0, 1, 2]
        table = least_table(widths=widths, numbers=numbers)
        self.assertEqual((widths, numbers), ([0, 1], [0, 1, 2]))
        widths[0] = numbers[0] = 9
        self.assertEqual(table.rungs, ((1, 0), (1, 1)))


if __name__ == "__main__":
    unittest.main()
