"""Points 39 and 40: tokens."""

import unittest
from itertools import product

from keptpictures.codes.table import Table
from keptpictures.codes.tokens import least_tokens, numbers_of, price, write_tokens
from keptpictures.errors import NoRung
from tests.codes_by_hand import bits_by_hand, least_by_hand, literals_by_hand, repetitions_by_hand
from tests.helpers import are_plain_integers, chances

ONE_NUMBER = Table([(0, 0)])
TABLES = (
    ([(0, 2)], None),
    ([(1, 0), (2, 0), (2, 0)], None),
    ([(1, 0), (2, 0)], (2, 0)),
    ([(1, 0), (2, 1)], (2, 1)),
    ([(2, 0), (2, 0), (2, 0)], (2, 2)),
    ([(2, 0), (2, 1)], (1, 0)),
    ([(2, 0), (2, 1)], (1, 1)),
    ([(3, 0), (3, 0), (2, 3)], (1, 5)),
    ([(1, 3)], (1, 2)),
    ([(1, 3)], (1, 3)),
    ([(1, 1), (2, 1)], (2, 3)),
)


def again(*numbers):
    return [("again", number) for number in numbers]


def ones(*numbers):
    return [("one", number) for number in numbers]


class NumbersTest(unittest.TestCase):
    def test_literals_stand_for_themselves(self):
        self.assertEqual(numbers_of(ones(3, 0, 3, 10 ** 9)), (3, 0, 3, 10 ** 9))

    def test_repetitions_stand_for_the_number_before(self):
        self.assertEqual(numbers_of([("one", 5), ("again", 3), ("one", 2), ("again", 1)]), (5, 5, 5, 5, 2, 2))

    def test_at_the_beginning_the_number_before_is_0(self):
        self.assertEqual(numbers_of(again(4)), (0, 0, 0, 0))
        self.assertEqual(numbers_of(again(2) + ones(7) + again(1)), (0, 0, 7, 7))

    def test_repetitions_in_a_row(self):
        self.assertEqual(numbers_of(ones(4) + again(1, 2) + ones(0) + again(1)), (4, 4, 4, 4, 0, 0))
        self.assertEqual(numbers_of(again(1, 1, 2)), (0, 0, 0, 0))

    def test_no_tokens(self):
        self.assertEqual(numbers_of([]), ())
        self.assertEqual(numbers_of(()), ())

    def test_it_is_a_tuple_of_integers(self):
        got = numbers_of(tuple(ones(1) + again(32)))
        self.assertIs(type(got), tuple)
        self.assertEqual(got, (1,) * 33)
        self.assertTrue(are_plain_integers(got))


class WriteTest(unittest.TestCase):
    def test_the_bits_stand_in_order(self):
        table = Table([(1, 0), (2, 1)], (2, 3))
        self.assertEqual(write_tokens(ones(0, 1, 2), table), "0" + "100" + "101")
        self.assertEqual(write_tokens(ones(2) + again(8) + ones(0) + again(1), table), "101" + "11111" + "0" + "11000")
        self.assertEqual(write_tokens(tuple(again(2)), table), "11001")

    def test_no_tokens_and_no_bits(self):
        self.assertEqual(write_tokens([], Table([(1, 0)], (1, 0))), "")
        self.assertEqual(write_tokens(ones(0, 0, 0), ONE_NUMBER), "")

    def test_tokens_need_not_be_the_least_ones(self):
        table = Table([(1, 0)], (1, 2))
        self.assertEqual(write_tokens(again(1, 1, 1, 1), table), "100" * 4)

    def test_all_tokens_by_the_definition(self):
        chance = chances(63)
        for rungs, repeat in TABLES:
            table = Table(rungs, repeat)
            literals, repetitions = literals_by_hand(rungs, repeat, table.total), repetitions_by_hand(rungs, repeat)
            tokens = ones(*literals) + again(*repetitions)
            for token in tokens:
                self.assertEqual(write_tokens([token], table), bits_by_hand([token], literals, repetitions))
            chance.shuffle(tokens)
            self.assertEqual(write_tokens(tokens, table), bits_by_hand(tokens, literals, repetitions))

    def test_the_first_token_without_bits_is_named(self):
        table = Table([(1, 0), (2, 1)], (2, 1))
        cases = ((ones(0, 3, 4), 3), (ones(0, 4, 3), 4), (again(3, 0), 3), (again(1, 2, 0, 3), 0),
                 (ones(2) + again(3) + ones(7), 3), (ones(7) + again(3), 7), (ones(10 ** 9), 10 ** 9))
        for tokens, number in cases:
            with self.assertRaises(NoRung) as caught:
                write_tokens(tokens, table)
            self.assertEqual(caught.exception.number, number)

    def test_repetitions_without_a_repeat(self):
        with self.assertRaises(NoRung) as caught:
            write_tokens(ones(1) + again(2), Table([(1, 0), (1, 0)]))
        self.assertEqual(caught.exception.number, 2)


class LeastTest(unittest.TestCase):
    def assert_least(self, numbers, rungs, repeat):
        table = Table(rungs, repeat)
        tokens, bits = least_by_hand(numbers, rungs, repeat)
        self.assertEqual(least_tokens(numbers, table), tokens, (numbers, rungs, repeat))
        self.assertEqual(price(numbers, table), bits, (numbers, rungs, repeat))
        self.assertEqual(len(write_tokens(tokens, table)), bits)
        self.assertEqual(numbers_of(tokens), tuple(numbers))

    def test_the_example_of_the_document(self):
        got = least_tokens((0, 0, 0, 0, 0, 0, 0, 3), Table.preset(1, 4))
        self.assertEqual(got, (("again", 7), ("one", 3)))
        self.assertEqual(price((0, 0, 0, 0, 0, 0, 0, 3), Table.preset(1, 4)), 5 + 3)

    def test_without_a_repeat_all_are_literals(self):
        table = Table([(1, 0), (2, 1), (2, 0)])
        self.assertEqual(least_tokens([0, 0, 2, 2, 3], table), tuple(ones(0, 0, 2, 2, 3)))
        self.assertEqual(price([0, 0, 2, 2, 3], table), 1 + 1 + 3 + 3 + 2)

    def test_no_numbers(self):
        for table in (ONE_NUMBER, Table([(1, 0)], (1, 5)), Table([(0, 16)])):
            self.assertEqual(least_tokens((), table), ())
            self.assertEqual(least_tokens([], table), ())
            self.assertEqual(price((), table), 0)

    def test_numbers_that_need_no_bits(self):
        self.assertEqual(least_tokens((0, 0, 0), ONE_NUMBER), tuple(ones(0, 0, 0)))
        self.assertEqual(price((0,) * 64, ONE_NUMBER), 0)

    def test_a_repetition_that_is_as_dear_as_its_literals_wins(self):
        # Four literals of 0 have four bits, as a repetition has.
        table = Table([(1, 0), (2, 0)], (2, 2))
        self.assertEqual(least_tokens((0, 0, 0), table), tuple(ones(0, 0, 0)))
        self.assertEqual(least_tokens((0, 0, 0, 0), table), (("again", 4),))
        self.assertEqual(least_tokens((0, 0, 0, 0, 0), table), (("again", 4), ("one", 0)))
        table = Table([(2, 0), (2, 0), (2, 0)], (2, 2))
        self.assertEqual(least_tokens((0, 0), table), (("again", 2),))
        self.assertEqual(least_tokens((1, 1, 1), table), (("one", 1), ("again", 2)))
        self.assertEqual(price((1, 1, 1), table), 6)

    def test_a_literal_wins_over_one_more_if_they_are_equally_dear(self):
        table = Table([(2, 0), (2, 0), (2, 0)], (2, 0))
        self.assertEqual(least_tokens((0, 1, 1, 2), table), tuple(ones(0, 1, 1, 2)))

    def test_one_more_wins_if_it_is_cheaper(self):
        table = Table([(2, 0), (2, 1)], (1, 0))
        self.assertEqual(least_tokens((0, 1, 1, 2), table), (("again", 1), ("one", 1), ("again", 1), ("one", 2)))

    def test_the_longest_first_token_wins(self):
        # Six zeros: repetitions of 4 and 2, of 2 and 4 or of 3 and 3 are equally dear.
        table = Table([(2, 0), (2, 0), (2, 0)], (2, 2))
        self.assertEqual(least_tokens((0,) * 6, table), tuple(again(4, 2)))
        # A literal is as dear as a repetition: the repetition of 2 comes first, and a literal wins for the rest.
        table = Table([(4, 0), (2, 0), (2, 0), (2, 0), (4, 0)], (3, 1))
        self.assertEqual(least_tokens((0,) * 3, table), (("again", 2), ("one", 0)))

    def test_runs_longer_than_the_greatest_repetition(self):
        for width in range(6):
            table = Table([(1, 6)], (1, width))
            greatest = 2 ** width
            for many in (greatest - 1, greatest, greatest + 1, 2 * greatest, 2 * greatest + 1, 64):
                numbers = (0,) * many
                tokens = least_tokens(numbers, table)
                self.assertEqual(numbers_of(tokens), numbers)
                self.assertEqual(price(numbers, table), -(-many // greatest) * (1 + width))

    def test_all_rows_of_up_to_five_numbers(self):
        for rungs, repeat in TABLES:
            for many in range(6):
                for numbers in product(range(min(3, Table(rungs, repeat).total)), repeat=many):
                    self.assert_least(numbers, rungs, repeat)

    def test_longer_rows(self):
        chance = chances(64)
        for _ in range(300):
            rungs, repeat = chance.choice(TABLES)
            numbers = []
            while len(numbers) < 8:
                numbers += [chance.choice((0, 0, 1, 2, 3)) % Table(rungs, repeat).total] * chance.randint(1, 5)
            self.assert_least(numbers[:11], rungs, repeat)

    def test_the_price_is_the_length_of_the_least_tokens(self):
        chance = chances(65)
        for modulus in (1, 2, 3, 64, 65535, 65536):
            for number in range(34):
                table = Table.preset(number, modulus)
                for count in (0, 1, 64):
                    numbers = [chance.randrange(modulus) >> chance.randrange(17) for _ in range(count)]
                    numbers[count // 2:] = [min(2, modulus - 1)] * (count - count // 2)
                    tokens = least_tokens(numbers, table)
                    self.assertEqual(numbers_of(tokens), tuple(numbers))
                    self.assertEqual(price(numbers, table), len(write_tokens(tokens, table)))

    def test_the_first_number_that_is_not_covered_is_named(self):
        table = Table([(1, 0), (2, 1)], (2, 3))
        for numbers, number in (((3,), 3), ((0, 0, 3, 4), 3), ([2, 4, 3], 4), ((4, 4, 4), 4), ((1, 10 ** 9), 10 ** 9)):
            for call in (least_tokens, price):
                with self.assertRaises(NoRung) as caught:
                    call(numbers, table)
                self.assertEqual(caught.exception.number, number)

    def test_tokens_are_tuples(self):
        got = least_tokens([0, 0, 1], Table([(1, 0), (2, 0)], (2, 3)))
        self.assertIs(type(got), tuple)
        for token in got:
            self.assertIs(type(token), tuple)
            self.assertTrue(are_plain_integers(token[1]))


class SharingTest(unittest.TestCase):
    def test_lists_that_were_passed_stay(self):
        table = Table([(1, 0), (2, 1)], (2, 3))
        tokens, numbers = ones(1) + again(3), [1, 1, 1, 1, 2]
        numbers_of(tokens)
        write_tokens(tokens, table)
        least_tokens(numbers, table)
        price(numbers, table)
        self.assertEqual((tokens, numbers), (ones(1) + again(3), [1, 1, 1, 1, 2]))

    def test_and_are_not_kept(self):
        table = Table([(1, 0), (2, 1)], (2, 3))
        numbers = [1, 1, 2]
        got = least_tokens(numbers, table)
        wanted = tuple(got)
        numbers[0] = 0
        numbers.clear()
        self.assertEqual(got, wanted)
        self.assertEqual(least_tokens([1, 1, 2], table), wanted)


if __name__ == "__main__":
    unittest.main()
