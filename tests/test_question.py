"""Points 8 to 10: questions."""

import unittest

from keptpictures.errors import NoCell
from keptpictures.sheets.question import Question, joined, parting_sheet
from keptpictures.sheets.sheet import Sheet
from tests.helpers import HUGE, are_plain_integers, chances, some_sheet


def some_terms(chance, width, height, many):
    """Return terms of which some cancel each other and some have the weight 0."""
    terms = []
    for _ in range(many):
        x, y = chance.randrange(width), chance.randrange(height)
        weight = chance.choice((0, 1, -1, 5, -12, HUGE, -HUGE))
        terms.append((x, y, weight))
        if chance.randrange(3) == 0:
            terms.insert(chance.randrange(len(terms)), (x, y, -weight))
    return terms


def weights_of(terms):
    """Return the weight of each cell, reckoned anew."""
    return {cell: total for cell in {(x, y) for x, y, _ in terms}
            if (total := sum(weight for x, y, weight in terms if (x, y) == cell)) != 0}


class NormalTermsTest(unittest.TestCase):
    def test_equal_cells_are_added_and_listed_in_row_order(self):
        question = Question([(1, 1, 2), (0, 1, 3), (2, 0, 4), (1, 1, 5), (0, 0, -1)])
        self.assertEqual(question.terms, ((0, 0, -1), (2, 0, 4), (0, 1, 3), (1, 1, 7)))
        self.assertIs(type(question.terms), tuple)
        self.assertTrue(all(type(term) is tuple for term in question.terms))

    def test_row_order_goes_by_y_and_then_by_x(self):
        question = Question([(0, 1, 1), (39, 0, 1), (10, 9, 1), (9, 10, 1), (0, 39, 1)])
        cells = [(x, y) for x, y, _ in question.terms]
        self.assertEqual(cells, [(39, 0), (0, 1), (10, 9), (9, 10), (0, 39)])

    def test_weights_that_add_up_to_0_are_left_out(self):
        self.assertEqual(Question([(3, 4, 7), (3, 4, -7)]).terms, ())
        self.assertEqual(Question([(3, 4, 0)]).terms, ())
        self.assertEqual(Question([(3, 4, 7), (1, 1, 1), (3, 4, -3), (3, 4, -4)]).terms, ((1, 1, 1),))
        self.assertEqual(Question([(0, 0, 5), (0, 0, -5), (0, 0, 2)]).terms, ((0, 0, 2),))

    def test_weights_are_not_reduced(self):
        self.assertEqual(Question([(0, 0, -3), (1, 0, 65536)]).terms, ((0, 0, -3), (1, 0, 65536)))

    def test_weights_of_sixty_digits(self):
        question = Question([(0, 0, HUGE), (1, 0, -HUGE), (0, 0, HUGE), (1, 0, -1)])
        self.assertEqual(question.terms, ((0, 0, 2 * HUGE), (1, 0, -HUGE - 1)))

    def test_no_terms(self):
        self.assertEqual(Question([]).terms, ())
        self.assertEqual(Question(()).terms, ())

    def test_two_hundred_terms_in_any_order(self):
        chance = chances(4)
        for _ in range(20):
            terms = some_terms(chance, 5, 5, 130)[:200]
            wanted = weights_of(terms)
            cells = sorted(wanted, key=lambda cell: (cell[1], cell[0]))
            self.assertEqual(Question(terms).terms, tuple((x, y, wanted[x, y]) for x, y in cells))
            chance.shuffle(terms)
            self.assertEqual(Question(tuple(terms)).terms, tuple((x, y, wanted[x, y]) for x, y in cells))

    def test_cell(self):
        self.assertEqual(Question.cell(3, 4).terms, ((3, 4, 1),))
        self.assertEqual(Question.cell(0, 39), Question([(0, 39, 1)]))


class EqualityTest(unittest.TestCase):
    def test_questions_with_equal_normal_terms_are_equal(self):
        self.assertTrue(Question([(0, 0, 1), (1, 0, 2)]) == Question([(1, 0, 2), (0, 0, 1)]))
        self.assertTrue(Question([(0, 0, 1), (0, 0, 1)]) == Question([(0, 0, 2)]))
        self.assertTrue(Question([(0, 0, 0)]) == Question([]))
        self.assertFalse(Question([(0, 0, 1)]) != Question([(0, 0, 1)]))

    def test_other_questions_are_not(self):
        question = Question([(0, 1, 1)])
        for terms in ([(1, 0, 1)], [(0, 1, 2)], [(0, 1, -1)], [], [(0, 1, 1), (0, 0, 1)]):
            self.assertFalse(question == Question(terms))
            self.assertTrue(question != Question(terms))

    def test_a_question_equals_nothing_but_questions(self):
        question = Question([(0, 0, 1)])
        for other in (question.terms, [(0, 0, 1)], 1, None, "question", Sheet(2, [[1]])):
            self.assertFalse(question == other)
            self.assertFalse(other == question)
        self.assertFalse(Question([]) == ())
        self.assertFalse(Question([]) == 0)


class ArithmeticTest(unittest.TestCase):
    def test_an_example(self):
        one = Question([(0, 0, 3), (1, 0, -2)])
        other = Question([(1, 0, 2), (0, 1, 5)])
        self.assertEqual((one + other).terms, ((0, 0, 3), (0, 1, 5)))
        self.assertEqual((one - other).terms, ((0, 0, 3), (1, 0, -4), (0, 1, -5)))
        self.assertEqual((-one).terms, ((0, 0, -3), (1, 0, 2)))
        self.assertEqual((4 * one).terms, ((0, 0, 12), (1, 0, -8)))
        self.assertEqual((one * -1).terms, ((0, 0, -3), (1, 0, 2)))
        self.assertEqual((one * 0).terms, ())
        self.assertEqual((0 * one).terms, ())
        self.assertEqual((one - one).terms, ())

    def test_weights_cell_by_cell(self):
        chance = chances(5)
        for _ in range(30):
            first, second = some_terms(chance, 4, 3, 12), some_terms(chance, 4, 3, 12)
            factor = chance.choice((HUGE, -HUGE, 0, 7, -1))
            one, other = Question(first), Question(second)
            turned = [(x, y, -weight) for x, y, weight in second]
            self.assertEqual(one + other, Question(first + second))
            self.assertEqual(one - other, Question(first + turned))
            self.assertEqual(-other, Question(turned))
            scaled = Question([(x, y, factor * weight) for x, y, weight in first])
            self.assertEqual(factor * one, scaled)
            self.assertEqual(one * factor, scaled)

    def test_results_may_be_long_and_are_used_further(self):
        question = Question([(x, y, HUGE) for y in range(5) for x in range(40)])
        other = Question([(x, y, -HUGE) for y in range(5, 10) for x in range(40)])
        grown = HUGE * (question + other)
        self.assertEqual(len(grown.terms), 400)
        self.assertEqual(grown.terms[0], (0, 0, HUGE * HUGE))
        self.assertEqual(grown.terms[-1], (39, 9, -HUGE * HUGE))
        self.assertEqual((grown - HUGE * other), HUGE * question)
        sheet = Sheet.even(65536, 40, 40, 3)
        self.assertEqual(grown(sheet), 0)
        self.assertEqual((HUGE * question)(sheet), HUGE * HUGE * 200 * 3 % 65536)

    def test_joined(self):
        one, other, third = Question([(0, 0, 1), (1, 1, 4)]), Question([(0, 0, 2)]), Question([(1, 1, -4)])
        self.assertEqual(joined(), Question([]))
        self.assertEqual(joined(one), one)
        self.assertEqual(joined(one, other), one + other)
        self.assertEqual(joined(one, other, third).terms, ((0, 0, 3),))
        self.assertEqual(joined(one, one, one), 3 * one)

    def test_operands_stay(self):
        one, other = Question([(0, 0, 1)]), Question([(0, 0, 2), (1, 0, 1)])
        one + other, one - other, -one, 2 * one, one * 2, joined(one, other)
        self.assertEqual((one.terms, other.terms), (((0, 0, 1),), ((0, 0, 2), (1, 0, 1))))


class ValueTest(unittest.TestCase):
    def test_an_example(self):
        sheet = Sheet(10, [[1, 2, 3], [4, 5, 6]])
        self.assertEqual(Question([(2, 0, 2), (0, 1, 3)])(sheet), 8)
        self.assertEqual(Question([(2, 0, -1)])(sheet), 7)
        self.assertEqual(Question.cell(1, 1)(sheet), 5)
        self.assertEqual(Question([(2, 0, 10)])(sheet), 0)

    def test_the_sum_of_the_weighted_samples(self):
        chance = chances(6)
        for modulus in (1, 2, 5, 12, 65535, 65536):
            sheet = some_sheet(chance, modulus, 4, 3)
            for many in (0, 1, 5, 60):
                terms = some_terms(chance, 4, 3, many)
                value = Question(terms)(sheet)
                self.assertEqual(value, sum(weight * sheet[x, y] for x, y, weight in terms) % modulus)
                self.assertTrue(are_plain_integers(value))

    def test_without_terms_the_value_is_0_everywhere(self):
        for sheet in (Sheet(1, [[0]]), Sheet(65536, [[65535]]), Sheet.even(7, 40, 40, 6)):
            self.assertEqual(Question([])(sheet), 0)
            self.assertEqual(Question([(39, 39, 4), (39, 39, -4)])(sheet), 0)

    def test_the_first_cell_outside_in_row_order(self):
        sheet = Sheet.even(5, 3, 2, 1)
        cases = (
            ([(3, 0, 1)], (3, 0)),
            ([(0, 2, 1)], (0, 2)),
            ([(0, 2, 1), (3, 1, 1)], (3, 1)),
            ([(1, 2, 1), (0, 3, 1), (2, 1, 1)], (1, 2)),
            ([(5, 2, 1), (4, 2, 1), (0, 0, 1)], (4, 2)),
            ([(39, 39, 5)], (39, 39)),
            ([(3, 0, 1), (3, 0, -1), (0, 2, 1)], (0, 2)),
        )
        for terms, cell in cases:
            with self.assertRaises(NoCell) as caught:
                Question(terms)(sheet)
            self.assertEqual((caught.exception.x, caught.exception.y), cell)

    def test_a_cell_whose_weight_is_0_modulo_m_must_be_inside_too(self):
        with self.assertRaises(NoCell):
            Question([(3, 0, 5)])(Sheet.even(5, 3, 2))
        with self.assertRaises(NoCell):
            Question([(1, 0, 1)])(Sheet.even(1, 1, 1))


class PartingSheetTest(unittest.TestCase):
    def test_equal_weights_modulo_m_cannot_be_parted(self):
        self.assertIsNone(parting_sheet(Question([(0, 0, 1)]), Question([(0, 0, 1)]), 5, 2, 2))
        self.assertIsNone(parting_sheet(Question([(0, 0, 1)]), Question([(0, 0, 6)]), 5, 2, 2))
        self.assertIsNone(parting_sheet(Question([(1, 1, -HUGE)]), Question([(1, 1, -HUGE + 65536)]), 65536, 2, 2))
        self.assertIsNone(parting_sheet(Question([(1, 1, 10)]), Question([]), 5, 2, 2))
        self.assertIsNone(parting_sheet(Question([]), Question([]), 65536, 1, 1))

    def test_modulus_one_parts_nothing(self):
        self.assertIsNone(parting_sheet(Question([(0, 0, 1)]), Question([(1, 0, 5)]), 1, 2, 1))

    def test_the_first_cell_in_row_order_gets_1(self):
        one = Question([(0, 1, 1), (1, 0, 7), (2, 0, 1)])
        other = Question([(1, 0, 2)])
        self.assertEqual(parting_sheet(one, other, 5, 3, 2), Sheet(5, [[0, 0, 1], [0, 0, 0]]))
        self.assertEqual(parting_sheet(one, other, 6, 3, 2), Sheet(6, [[0, 1, 0], [0, 0, 0]]))
        self.assertEqual(parting_sheet(Question([]), Question([(0, 1, 1)]), 2, 2, 2), Sheet(2, [[0, 0], [1, 0]]))

    def test_it_parts_the_questions_or_they_agree_everywhere(self):
        chance = chances(7)
        for _ in range(200):
            modulus = chance.choice((1, 2, 3, 4, 6))
            one, other = Question(some_terms(chance, 3, 2, 3)), Question(some_terms(chance, 3, 2, 3))
            if chance.randrange(2):
                other = one + modulus * other
            sheet = parting_sheet(one, other, modulus, 3, 2)
            if sheet is None:
                for y in range(2):
                    for x in range(3):
                        unit = Sheet.even(modulus, 3, 2).changed(x, y, 1 % modulus)
                        self.assertEqual(one(unit), other(unit))
            else:
                self.assertEqual((sheet.modulus, sheet.width, sheet.height), (modulus, 3, 2))
                self.assertNotEqual(one(sheet), other(sheet))

    def test_cells_outside_of_one_come_before_those_of_other(self):
        one = Question([(0, 0, 1), (5, 3, 1), (4, 3, 1)])
        other = Question([(3, 0, 1), (0, 2, 1)])
        cases = (
            (one, other, (4, 3)),
            (other, one, (3, 0)),
            (Question([]), other, (3, 0)),
            (one, Question([]), (4, 3)),
            (one, one, (4, 3)),
        )
        for first, second, cell in cases:
            for modulus in (1, 5):
                with self.assertRaises(NoCell) as caught:
                    parting_sheet(first, second, modulus, 3, 2)
                self.assertEqual((caught.exception.x, caught.exception.y), cell)

    def test_cells_just_inside_and_just_outside(self):
        inside, outside = Question([(2, 1, 1)]), Question([(2, 2, 1)])
        self.assertEqual(parting_sheet(inside, Question([]), 2, 3, 2), Sheet(2, [[0, 0, 0], [0, 0, 1]]))
        with self.assertRaises(NoCell):
            parting_sheet(outside, Question([]), 2, 3, 2)
        with self.assertRaises(NoCell):
            parting_sheet(inside, Question([]), 2, 2, 2)


class SharingTest(unittest.TestCase):
    def test_the_terms_that_were_passed_stay_and_are_not_kept(self):
        terms = [(1, 0, 2), (0, 0, 1), (1, 0, 3)]
        question = Question(terms)
        self.assertEqual(terms, [(1, 0, 2), (0, 0, 1), (1, 0, 3)])
        terms.append((0, 0, 100))
        terms[0] = (3, 3, 3)
        self.assertEqual(question.terms, ((0, 0, 1), (1, 0, 5)))
        self.assertEqual(question(Sheet(10, [[1, 1]])), 6)


if __name__ == "__main__":
    unittest.main()
