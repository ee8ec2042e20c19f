"""Points 73 to 80: knowledge, compared with a walk over all bodies where they are few."""

import copy
import time
import unittest
from itertools import product

from keptpictures.errors import Clash, KeepError, NoCell, TooLarge, Unlike
from keptpictures.knowledge.knowledge import Knowledge
from keptpictures.sheets.question import Question, joined
from keptpictures.sheets.sheet import Sheet
from tests.helpers import HUGE, are_plain_integers, chances, some_sheet
from tests.knowledge_by_hand import (added_up, all_sheets, answer_by_hand, cells_of, count_by_leads, fitting, kept_form,
                                     normal_form_by_hand, some_facts, some_question, values_of, worth)

SMALL = ((1, 2, 2), (2, 2, 2), (2, 3, 1), (3, 2, 1), (4, 2, 1), (4, 1, 3), (6, 2, 1), (6, 1, 2), (8, 2, 1), (9, 1, 2),
         (12, 2, 1), (12, 1, 1), (5, 1, 2), (3, 3, 1))


def small_cases(seed, times=6):
    """Yield (modulus, width, height, facts, fitting sheets), also where no sheet fits."""
    chance = chances(seed)
    for modulus, width, height in SMALL:
        for time_number in range(times):
            sheet = some_sheet(chance, modulus, width, height) if time_number % 3 else None
            facts = some_facts(chance, modulus, width, height, chance.randint(0, 4), sheet)
            yield modulus, width, height, facts, fitting(modulus, width, height, facts)


def fitting_cases(seed, times=6):
    return [case for case in small_cases(seed, times) if case[4]]


def wide_case(chance, modulus, many, terms=200):
    """Return a sheet of 8 by 8 cells and facts that are true of it."""
    sheet = some_sheet(chance, modulus, 8, 8)
    facts = []
    for _ in range(many):
        own = [(chance.randrange(8), chance.randrange(8), chance.randint(-HUGE, HUGE) * chance.choice((1, 2, 6)))
               for _ in range(chance.randint(1, terms))]
        facts.append((own, worth(own, sheet) % modulus + modulus * chance.randint(-9, 9)))
    return sheet, facts


class MakingTest(unittest.TestCase):
    def test_attributes(self):
        told = Knowledge(2, 3, (4, 6), [[], []])
        self.assertEqual((told.width, told.height, told.moduli), (2, 3, (4, 6)))
        self.assertTrue(are_plain_integers((told.width, told.height, told.moduli)))
        named = Knowledge(width=2, height=3, moduli=(4, 6), facts=((), ()))
        self.assertEqual(named, told)

    def test_facts_are_brought_into_their_form(self):
        facts = [([(1, 0, 5), (0, 0, -1), (1, 0, 2)], 9),
                 (((0, 0, 4),), 8),
                 ([(0, 1, 3), (0, 0, 2), (0, 1, -3)], -4),
                 ([], 0),
                 ([(1, 1, 0), (1, 0, HUGE)], -HUGE)]
        told = Knowledge(2, 2, (4,), [facts])
        self.assertEqual(told.facts(0), [(((0, 0, 3), (1, 0, 3)), 1), ((), 0), (((0, 0, 2),), 0), ((), 0),
                                         (((1, 0, HUGE % 4),), -HUGE % 4)])
        self.assertIs(type(told.facts(0)), list)
        self.assertTrue(are_plain_integers(told.facts(0)))

    def test_facts_of_any_kind_of_sequence(self):
        for make in (list, tuple):
            facts = make([make([(make([(0, 0, 1)]), 1)]), make([])])
            self.assertEqual(Knowledge(1, 1, (2, 3), facts).facts(0), [(((0, 0, 1),), 1)])

    def test_facts_in_their_form_on_many_inputs(self):
        for modulus, width, height, facts, _ in fitting_cases(1):
            self.assertEqual(Knowledge(width, height, (modulus,), [facts]).facts(0), kept_form(facts, modulus))

    def test_64_cells_and_65(self):
        for width, height in ((8, 8), (32, 2), (1, 40), (40, 1), (16, 4), (1, 1)):
            self.assertEqual(Knowledge(width, height, (2,), [[]]).count(), 2 ** (width * height))
        for width, height in ((13, 5), (5, 13), (40, 2), (40, 40), (9, 8), (33, 2)):
            with self.assertRaises(TooLarge):
                Knowledge(width, height, (2,), [[]])

    def test_400_facts_and_401(self):
        fact = (((0, 0, 1),), 1)
        told = Knowledge(1, 1, (2, 2), [[fact] * 400, [fact] * 400])
        self.assertEqual((len(told.facts(0)), len(told.facts(1)), told.count()), (400, 400, 1))
        for facts in ([[fact] * 401, []], [[], [fact] * 401]):
            with self.assertRaises(TooLarge):
                Knowledge(1, 1, (2, 2), facts)

    def test_the_first_cell_outside(self):
        for term in ((2, 0, 1), (0, 3, 1), (39, 39, 0), (2, 0, HUGE), (0, 3, 4)):
            with self.assertRaises(NoCell) as caught:
                Knowledge(2, 3, (4,), [[([(0, 0, 1)], 0), ([(1, 2, 1), term, (9, 9, 1)], 0), ([(8, 8, 1)], 0)]])
            self.assertEqual((caught.exception.x, caught.exception.y), term[:2])
        with self.assertRaises(NoCell) as caught:
            Knowledge(2, 1, (2, 2, 2), [[], [([(0, 0, 1)], 0), ([(5, 5, 1), (0, 7, 1)], 0)], [([(0, 1, 1)], 0)]])
        self.assertEqual((caught.exception.x, caught.exception.y), (5, 5))

    def test_terms_outside_that_cancel_each_other_stay_outside(self):
        with self.assertRaises(NoCell) as caught:
            Knowledge(1, 1, (4,), [[([(0, 5, 3), (0, 5, -3)], 0)]])
        self.assertEqual((caught.exception.x, caught.exception.y), (0, 5))

    def test_the_order_of_the_errors(self):
        clash, outside = ([], 1), ([(9, 9, 1)], 0)
        with self.assertRaises(TooLarge):
            Knowledge(9, 8, (2,), [[clash, ([(39, 39, 1)], 0)]])
        with self.assertRaises(TooLarge):
            Knowledge(1, 1, (2, 2), [[outside], [clash] * 401])
        with self.assertRaises(NoCell):
            Knowledge(1, 1, (2, 2), [[clash], [outside]])
        with self.assertRaises(Clash):
            Knowledge(1, 1, (2, 2), [[], [clash]])

    def test_errors_are_of_the_program(self):
        for error in (TooLarge, NoCell, Clash, Unlike):
            self.assertIs(error.__bases__[0], KeepError)

    def test_sharing(self):
        facts = [[([(0, 0, 2)], 2)], [([(1, 0, 1), (0, 0, 1)], 3)]]
        before = copy.deepcopy(facts)
        told = Knowledge(2, 1, (4, 6), facts)
        self.assertEqual(facts, before)
        same = Knowledge(2, 1, (4, 6), before)
        facts[0][0][0].append((1, 0, 1))
        facts[1].append(([], 0))
        facts.pop()
        told.facts(0).append(1)
        told.facts(1).clear()
        self.assertEqual(told, same)
        self.assertEqual([told.facts(z) for z in (0, 1)], [same.facts(z) for z in (0, 1)])
        self.assertEqual(told.answer(0, Question.cell(0, 0)), (1, 2))


class ClashTest(unittest.TestCase):
    def require_clash(self, modulus, facts, factors):
        self.assertIs(type(factors), tuple)
        self.assertEqual(len(factors), len(facts))
        self.assertTrue(all(type(factor) is int and 0 <= factor < modulus for factor in factors))
        weights, value = added_up(facts, factors, modulus)
        self.assertEqual(weights, {})
        self.assertNotEqual(value, 0)

    def test_the_example_of_the_document(self):
        with self.assertRaises(Clash) as caught:
            Knowledge(1, 1, (4,), [[(((0, 0, 2),), 1)]])
        self.assertEqual(caught.exception.sheet, 0)
        self.assertEqual(caught.exception.factors, (2,))

    def test_just_where_no_sheet_fits(self):
        clashes = 0
        for modulus, width, height, facts, sheets in small_cases(2, 30):
            if sheets:
                Knowledge(width, height, (modulus,), [facts])
                continue
            clashes += 1
            with self.assertRaises(Clash) as caught:
                Knowledge(width, height, (modulus,), [facts])
            self.assertEqual(caught.exception.sheet, 0)
            self.require_clash(modulus, facts, caught.exception.factors)
        self.assertGreater(clashes, 40)

    def test_the_first_sheet(self):
        right, wrong = [([(0, 0, 1)], 1)], [([(0, 0, 2)], 0), ([(0, 0, 2)], 2), ([], 1)]
        for facts, z in (([wrong, wrong], 0), ([right, wrong], 1), ([wrong, right], 0),
                         ([right, right, right, wrong], 3), ([[], wrong, wrong, right], 1)):
            with self.assertRaises(Clash) as caught:
                Knowledge(1, 1, (4,) * len(facts), facts)
            self.assertEqual(caught.exception.sheet, z)
            self.require_clash(4, facts[z], caught.exception.factors)

    def test_facts_without_terms(self):
        self.assertEqual(Knowledge(1, 1, (4,), [[([], 0), ([], 4), ([(0, 0, 8)], -4)]]).count(), 4)
        for modulus in (2, 6, 65536):
            with self.assertRaises(Clash) as caught:
                Knowledge(1, 1, (modulus,), [[([(0, 0, 1)], 1), ([(0, 0, modulus)], 1)]])
            self.require_clash(modulus, [([(0, 0, 1)], 1), ([(0, 0, modulus)], 1)], caught.exception.factors)

    def test_modulo_1_nothing_clashes(self):
        self.assertEqual(Knowledge(1, 1, (1,), [[([(0, 0, 1)], 1), ([], 5)]]).count(), 1)

    def test_on_many_cells(self):
        chance = chances(3)
        for modulus in (2, 4, 6, 12, 65521, 65535, 65536, 30030):
            for many in (1, 66, 130, 399):
                _, facts = wide_case(chance, modulus, many, 12)
                Knowledge(8, 8, (modulus,), [facts])
                terms, value = chance.choice(facts)
                facts.insert(chance.randint(0, many), (terms, value + chance.randint(1, modulus - 1)))
                with self.assertRaises(Clash) as caught:
                    Knowledge(8, 8, (modulus,), [facts])
                self.require_clash(modulus, facts, caught.exception.factors)


class AnswerTest(unittest.TestCase):
    def test_the_examples_of_the_document(self):
        told = Knowledge(2, 1, (4,), [[(((0, 0, 2),), 2)]])
        self.assertEqual(told.answer(0, Question.cell(0, 0)), (1, 2))
        self.assertEqual(told.answer(0, Question.cell(1, 0)), (0, 1))
        self.assertEqual(told.count(), 8)
        self.assertIn(told.certificate(0, Question.cell(0, 0)), ((1,), (3,)))
        self.assertEqual(told.step_sheet(0, Question.cell(0, 0)), Sheet(4, [[2, 0]]))
        self.assertEqual(told.answer(z=0, question=Question([])), (0, 4))

    def test_the_values_on_all_fitting_sheets(self):
        chance = chances(4)
        for modulus, width, height, facts, sheets in fitting_cases(5, 12):
            told = Knowledge(width, height, (modulus,), [facts])
            questions = [Question.cell(x, y) for x, y in cells_of(width, height)] + [Question([])]
            questions += [some_question(chance, modulus, width, height) for _ in range(4)]
            for question in questions:
                rest, step = told.answer(0, question)
                self.assertEqual(modulus % step, 0)
                self.assertTrue(0 <= rest < step)
                self.assertEqual(values_of((rest, step), modulus), answer_by_hand(sheets, question))

    def test_every_question_about_a_small_sheet(self):
        for modulus, facts in ((4, [([(0, 0, 2), (1, 0, 1)], 3)]), (6, [([(0, 0, 2)], 4), ([(1, 0, 3)], 3)]),
                               (8, [([(0, 0, 6), (1, 0, 4)], 2)]), (12, [([(0, 0, 8), (1, 0, 3)], 7)])):
            sheets = fitting(modulus, 2, 1, facts)
            told = Knowledge(2, 1, (modulus,), [facts])
            for a, b in product(range(modulus), repeat=2):
                question = Question([(0, 0, a), (1, 0, b)])
                answer = told.answer(0, question)
                self.assertEqual(values_of(answer, modulus), answer_by_hand(sheets, question))

    def test_cells_outside(self):
        told = Knowledge(2, 2, (4, 1), [[], []])
        question = Question([(1, 1, 1), (2, 1, 4), (0, 2, 1), (5, 0, 8)])
        for ask in (told.answer, told.certificate, told.step_sheet):
            for z in (0, 1):
                with self.assertRaises(NoCell) as caught:
                    ask(z, question)
                self.assertEqual((caught.exception.x, caught.exception.y), (5, 0))
                with self.assertRaises(NoCell) as caught:
                    ask(z, Question([(39, 39, 1), (0, 39, 4)]))
                self.assertEqual((caught.exception.x, caught.exception.y), (0, 39))

    def test_each_sheet_by_itself(self):
        told = Knowledge(1, 1, (2, 3, 4, 5), [[], [([(0, 0, 1)], 2)], [([(0, 0, 2)], 0)], []])
        answers = [told.answer(z, Question.cell(0, 0)) for z in range(4)]
        self.assertEqual(answers, [(0, 1), (2, 3), (0, 2), (0, 1)])
        self.assertEqual(told.count(), 2 * 1 * 2 * 5)
        self.assertEqual([told.normal_form(z) for z in range(4)],
                         [(), ((((0, 0, 1),), 2),), ((((0, 0, 2),), 0),), ()])

    def require_shown(self, told, facts, question, modulus):
        """Multiply out what shows that an answer is right."""
        rest, step = told.answer(0, question)
        times = modulus // step
        factors = told.certificate(0, question)
        self.assertIs(type(factors), tuple)
        self.assertEqual(len(factors), len(facts))
        self.assertTrue(all(type(factor) is int and 0 <= factor < modulus for factor in factors))
        weights, value = added_up(facts, factors, modulus)
        wanted = {(x, y): times * weight % modulus for x, y, weight in question.terms if times * weight % modulus}
        self.assertEqual((weights, value), (wanted, times * rest % modulus))
        sheet = told.step_sheet(0, question)
        if step == modulus:
            self.assertIsNone(sheet)
            return
        self.assertEqual((sheet.modulus, sheet.width, sheet.height), (modulus, told.width, told.height))
        self.assertTrue(are_plain_integers(sheet.rows))
        self.assertTrue(all(0 <= sample < modulus for row in sheet.rows for sample in row))
        self.assertTrue(all(worth(terms, sheet) % modulus == 0 for terms, _ in facts))
        self.assertEqual(question(sheet), step % modulus)

    def test_certificates_and_step_sheets(self):
        chance = chances(6)
        for modulus, width, height, facts, _ in fitting_cases(7, 12):
            told = Knowledge(width, height, (modulus,), [facts])
            for _ in range(5):
                self.require_shown(told, facts, some_question(chance, modulus, width, height), modulus)

    def test_on_many_cells(self):
        chance = chances(8)
        for modulus in (1, 2, 4, 6, 12, 65521, 65535, 65536, 55440):
            for many in (0, 1, 5, 20, 63, 400):
                sheet, facts = wide_case(chance, modulus, many, 12)
                told = Knowledge(8, 8, (modulus,), [facts])
                self.assertTrue(told.allows((sheet,)))
                for _ in range(6):
                    question = some_question(chance, modulus, 8, 8, 20)
                    self.require_shown(told, facts, question, modulus)
                    rest, step = told.answer(0, question)
                    self.assertEqual(question(sheet) % step, rest)
                    self.assertEqual(question(told.least_sheet(0)) % step, rest)
                for terms, value in facts[:5]:
                    self.assertEqual(told.answer(0, Question(terms)), (value % modulus, modulus))

    def test_questions_that_were_added_up(self):
        chance = chances(9)
        sheet, facts = wide_case(chance, 65535, 30)
        told = Knowledge(8, 8, (65535,), [facts])
        question = HUGE * joined(*[Question(terms) for terms, _ in facts]) * HUGE
        total = sum(value for _, value in facts) * HUGE * HUGE
        self.assertEqual(told.answer(0, question), (total % 65535, 65535))
        self.require_shown(told, facts, question + Question.cell(3, 3), 65535)
        wide = Question([(x, y, HUGE - x) for y in range(40) for x in range(4)])
        wider = wide + Question([(x, y, x) for y in range(40) for x in range(5)])
        with self.assertRaises(NoCell) as caught:
            Knowledge(4, 16, (6,), [[]]).answer(0, wider)
        self.assertEqual((caught.exception.x, caught.exception.y), (4, 0))

    def test_modulo_1(self):
        told = Knowledge(2, 2, (1,), [[([(0, 0, 5)], 7)]])
        question = Question.cell(1, 1)
        self.assertEqual((told.answer(0, question), told.certificate(0, question)), ((0, 1), (0,)))
        self.assertIsNone(told.step_sheet(0, question))
        self.assertEqual((told.count(), told.normal_form(0)), (1, ()))
        self.assertEqual(told.least_sheet(0), Sheet.even(1, 2, 2))

    def test_the_bounds_are_answered_soon(self):
        chance = chances(10)
        for modulus in (65536, 55440):
            begun = time.perf_counter()
            sheet, facts = wide_case(chance, modulus, 400)
            told = Knowledge(8, 8, (modulus,), [facts])
            for _ in range(20):
                question = some_question(chance, modulus, 8, 8, 64)
                self.require_shown(told, facts, question, modulus)
            self.assertEqual(told.least_sheet(0), sheet)
            self.assertLess(time.perf_counter() - begun, 20)


class FormTest(unittest.TestCase):
    def test_on_small_sheets(self):
        for modulus, width, height, facts, sheets in fitting_cases(11):
            told = Knowledge(width, height, (modulus,), [facts])
            self.assertEqual(told.normal_form(0), normal_form_by_hand(modulus, width, height, sheets))
            self.assertTrue(are_plain_integers(told.normal_form(0)))

    def test_a_form_by_hand(self):
        # Twice the first cell is 2 modulo 4; the second and the third cell are equal.
        told = Knowledge(3, 1, (4,), [[([(0, 0, 2), (1, 0, 1), (2, 0, 3)], 2), ([(2, 0, 1), (1, 0, -1)], 0)]])
        self.assertEqual(told.normal_form(0), ((((0, 0, 2),), 2), (((1, 0, 1), (2, 0, 3)), 0)))
        self.assertEqual(told.count(), 8)

    def test_later_weights_are_less_than_later_leads(self):
        chance = chances(12)
        for modulus in (4, 6, 12, 65535, 65536):
            _, facts = wide_case(chance, modulus, 30, 12)
            form = Knowledge(8, 8, (modulus,), [facts]).normal_form(0)
            leads = {terms[0][:2]: terms[0][2] for terms, _ in form}
            self.assertEqual([terms[0][:2] for terms, _ in form], sorted(leads, key=lambda cell: cell[::-1]))
            for terms, value in form:
                self.assertEqual(modulus % terms[0][2], 0)
                self.assertTrue(0 <= value < modulus)
                for x, y, weight in terms[1:]:
                    self.assertTrue(0 < weight < leads.get((x, y), modulus))
                self.assertEqual([term[:2] for term in terms],
                                 sorted([term[:2] for term in terms], key=lambda cell: cell[::-1]))

    def test_the_same_facts_in_other_ways(self):
        chance = chances(13)
        for modulus in (2, 4, 6, 12, 30030, 65535, 65536):
            for many in (3, 20, 60):
                _, facts = wide_case(chance, modulus, many, 8)
                told = Knowledge(8, 8, (modulus,), [facts])
                mixed = facts + [chance.choice(facts) for _ in range(5)]
                for _ in range(5):
                    (terms, value), (more, other) = chance.choice(facts), chance.choice(facts)
                    mixed.append((terms + [(x, y, 7 * weight) for x, y, weight in more], value + 7 * other))
                chance.shuffle(mixed)
                same = Knowledge(8, 8, (modulus,), [mixed])
                self.assertEqual(told, same)
                self.assertEqual(told.normal_form(0), same.normal_form(0))
                self.assertEqual(told.least_sheet(0), same.least_sheet(0))
                self.assertEqual(told.count(), same.count())
                again = Knowledge(8, 8, (modulus,), [told.normal_form(0)])
                self.assertEqual(again, told)
                self.assertEqual(again.facts(0), list(told.normal_form(0)))

    def test_a_fact_added_to_another_one(self):
        told = Knowledge(2, 1, (6,), [[([(0, 0, 2)], 4), ([(1, 0, 3)], 3)]])
        same = Knowledge(2, 1, (6,), [[([(0, 0, 2), (1, 0, 3)], 1), ([(1, 0, 3)], 3)]])
        self.assertEqual(told, same)
        self.assertEqual(told.normal_form(0), ((((0, 0, 2),), 4), (((1, 0, 3),), 3)))


class CountTest(unittest.TestCase):
    def test_the_fitting_sheets(self):
        for modulus, width, height, facts, sheets in fitting_cases(14, 12):
            told = Knowledge(width, height, (modulus,), [facts])
            self.assertEqual(told.count(), len(sheets))

    def test_the_product_of_the_leads(self):
        for modulus, width, height, facts, sheets in fitting_cases(15, 3):
            told = Knowledge(width, height, (modulus,), [facts])
            self.assertEqual(told.count(), count_by_leads(modulus, width, height, sheets))

    def test_the_product_over_the_sheets(self):
        self.assertEqual(Knowledge(2, 1, (2, 3, 4, 5), [[], [], [([(0, 0, 2)], 0)], []]).count(), 4 * 9 * 8 * 25)
        self.assertEqual(Knowledge(8, 8, (65536,) * 4, [[]] * 4).count(), 2 ** (16 * 64 * 4))

    def test_the_least_sheet(self):
        for modulus, width, height, facts, sheets in fitting_cases(16, 12):
            told = Knowledge(width, height, (modulus,), [facts])
            listed = [[sample for row in sheet.rows for sample in row][::-1] for sheet in sheets]
            least = sheets[listed.index(min(listed))]
            self.assertEqual(told.least_sheet(0), least)

    def test_the_last_cell_is_least_first(self):
        told = Knowledge(2, 1, (4, 9), [[([(0, 0, 1), (1, 0, 1)], 3)], [([(0, 0, 3), (1, 0, 1)], 2)]])
        self.assertEqual(told.least_sheet(0), Sheet(4, [[3, 0]]))
        self.assertEqual(told.least_sheet(1), Sheet(9, [[0, 2]]))
        self.assertTrue(told.allows((told.least_sheet(0), told.least_sheet(1))))

    def test_without_facts(self):
        told = Knowledge(3, 2, (5, 1), [[], []])
        self.assertEqual((told.least_sheet(0), told.least_sheet(1)), (Sheet.even(5, 3, 2), Sheet.even(1, 3, 2)))

    def test_one_body(self):
        sheet = Sheet(6, [[1, 5], [0, 2]])
        told = Knowledge(2, 2, (6,), [[([(x, y, 1)], sheet[x, y]) for x, y in cells_of(2, 2)]])
        self.assertEqual((told.count(), told.least_sheet(0)), (1, sheet))
        self.assertEqual([other for other in all_sheets(6, 2, 2) if told.allows((other,))], [sheet])


class AllowsTest(unittest.TestCase):
    def test_just_the_fitting_sheets(self):
        for modulus, width, height, facts, sheets in fitting_cases(17):
            told = Knowledge(width, height, (modulus,), [facts])
            found = [sheet for sheet in all_sheets(modulus, width, height) if told.allows((sheet,))]
            self.assertEqual(found, sheets)

    def test_bodies_of_other_sizes_and_moduli(self):
        told = Knowledge(2, 1, (4, 2), [[([(0, 0, 1)], 3)], []])
        fit, free = Sheet(4, [[3, 0]]), Sheet(2, [[1, 1]])
        self.assertIs(told.allows((fit, free)), True)
        for body in ((fit,), (free, fit), (fit, free, free), (fit, Sheet(4, [[1, 1]])), (Sheet(4, [[0, 3]]), free),
                     (fit, Sheet(2, [[1]])), (Sheet(4, [[3, 0], [0, 0]]), free), (Sheet(8, [[3, 0]]), free),
                     (Sheet(4, [[3]]), Sheet(2, [[1]])), (Sheet(4, [[3], [0]]), Sheet(2, [[1], [1]]))):
            self.assertIs(told.allows(body), False)
        self.assertIs(told.allows(body=(fit, free)), True)


class CompareTest(unittest.TestCase):
    def pairs(self, seed, times=5):
        """Yield pairs of knowledge about one small size, with their fitting sheets."""
        chance = chances(seed)
        for modulus, width, height in SMALL:
            for _ in range(times):
                pair = []
                for _ in (0, 1):
                    sheet = some_sheet(chance, modulus, width, height)
                    facts = some_facts(chance, modulus, width, height, chance.randint(0, 3), sheet)
                    pair.append((Knowledge(width, height, (modulus,), [facts]),
                                 fitting(modulus, width, height, facts)))
                yield pair

    def test_equal_if_the_same_bodies_fit(self):
        for (one, sheets), (other, others) in self.pairs(18, 12):
            self.assertIs(one == other, sheets == others)
            self.assertIs(one != other, sheets != others)

    def test_equal_nothing_else(self):
        told = Knowledge(2, 1, (4,), [[]])
        for other in (None, 0, "", (), Knowledge(1, 2, (4,), [[]]), Knowledge(2, 1, (2,), [[]]),
                      Knowledge(2, 1, (4, 4), [[], []]), Sheet.even(4, 2, 1), Question([])):
            self.assertFalse(told == other)
            self.assertTrue(told != other)
        self.assertTrue(told == Knowledge(2, 1, (4,), [[([(0, 0, 4)], 0)]]))
        self.assertFalse(told == Knowledge(2, 1, (4,), [[([(0, 0, 2)], 0)]]))
        one, other = [([(0, 0, 1)], 0)], []
        self.assertFalse(Knowledge(1, 1, (4, 4), [one, other]) == Knowledge(1, 1, (4, 4), [other, one]))

    def test_tells(self):
        found = {True: 0, False: 0}
        for (one, sheets), (other, others) in self.pairs(19, 12):
            wanted = all(sheet in others for sheet in sheets)
            self.assertIs(one.tells(other), wanted)
            self.assertIs(other.tells(one), all(sheet in sheets for sheet in others))
            found[wanted] += 1
        self.assertGreater(min(found.values()), 20)

    def test_tells_with_several_sheets(self):
        one = Knowledge(1, 1, (4, 6), [[([(0, 0, 1)], 1)], [([(0, 0, 2)], 2)]])
        other = Knowledge(1, 1, (4, 6), [[([(0, 0, 2)], 2)], []])
        third = Knowledge(1, 1, (4, 6), [[], [([(0, 0, 1)], 1)]])
        self.assertEqual([[a.tells(b) for b in (one, other, third)] for a in (one, other, third)],
                         [[True, True, False], [False, True, False], [False, False, True]])
        self.assertIs(one.tells(other=other), True)

    def test_both(self):
        clashes = 0
        for (one, sheets), (other, others) in self.pairs(20, 8):
            both = [sheet for sheet in sheets if sheet in others]
            modulus = one.moduli[0]
            if not both:
                clashes += 1
                with self.assertRaises(Clash) as caught:
                    one & other
                weights, value = added_up(one.facts(0) + other.facts(0), caught.exception.factors, modulus)
                self.assertEqual(weights, {})
                self.assertNotEqual(value, 0)
                self.assertEqual(len(caught.exception.factors), len(one.facts(0)) + len(other.facts(0)))
                continue
            told = one & other
            self.assertEqual(told.facts(0), one.facts(0) + other.facts(0))
            self.assertEqual(told.count(), len(both))
            self.assertTrue(all(told.allows((sheet,)) for sheet in both))
        self.assertGreater(clashes, 5)

    def test_both_have_at_most_400_facts(self):
        fact, wrong = ([(0, 0, 1)], 1), ([(0, 0, 1)], 0)
        one = Knowledge(1, 1, (2, 2), [[fact] * 300, []])
        self.assertEqual(len((one & Knowledge(1, 1, (2, 2), [[fact] * 100, [fact] * 400])).facts(0)), 400)
        with self.assertRaises(TooLarge):
            one & Knowledge(1, 1, (2, 2), [[wrong] * 101, []])
        with self.assertRaises(TooLarge):
            Knowledge(1, 1, (2, 2), [[fact], [fact] * 400]) & Knowledge(1, 1, (2, 2), [[wrong], [fact]])
        with self.assertRaises(Clash) as caught:
            one & Knowledge(1, 1, (2, 2), [[wrong] * 100, []])
        self.assertEqual((caught.exception.sheet, len(caught.exception.factors)), (0, 400))

    def test_common(self):
        for (one, sheets), (other, others) in self.pairs(21, 8):
            told = one | other
            modulus, width, height = one.moduli[0], one.width, one.height
            self.assertEqual(told.normal_form(0), normal_form_by_hand(modulus, width, height, sheets + others))
            self.assertEqual(told.facts(0), list(told.normal_form(0)))
            self.assertTrue(one.tells(told) and other.tells(told))

    def test_common_facts_of_two_bodies(self):
        one = Knowledge(2, 1, (6,), [[([(0, 0, 1)], 1), ([(1, 0, 1)], 2)]])
        other = Knowledge(2, 1, (6,), [[([(0, 0, 1)], 3), ([(1, 0, 1)], 5)]])
        self.assertEqual((one | other).count(), 6)
        self.assertEqual((one | other).normal_form(0),
                         normal_form_by_hand(6, 2, 1, [Sheet(6, [[1, 2]]), Sheet(6, [[3, 5]])]))

    def test_common_on_many_cells(self):
        chance = chances(22)
        for modulus in (2, 12, 65535, 65536):
            sheet, facts = wide_case(chance, modulus, 90, 12)
            one = Knowledge(8, 8, (modulus,), [facts[:60]])
            other = Knowledge(8, 8, (modulus,), [facts[30:]])
            told = one | other
            self.assertTrue(told.allows((sheet,)))
            self.assertTrue(told.allows((one.least_sheet(0),)) and told.allows((other.least_sheet(0),)))
            self.assertTrue(told.tells(Knowledge(8, 8, (modulus,), [facts[30:60]])))
            self.assertTrue(one.tells(told) and other.tells(told))
            self.assertEqual(told, other | one)
            self.assertEqual(one | one, one)
            self.assertEqual(one & other, Knowledge(8, 8, (modulus,), [facts]))
            self.assertEqual(one | (one & other), one)

    def test_several_sheets(self):
        one = Knowledge(1, 1, (4, 6), [[([(0, 0, 1)], 1)], [([(0, 0, 1)], 1)]])
        other = Knowledge(1, 1, (4, 6), [[([(0, 0, 1)], 3)], [([(0, 0, 1)], 3)]])
        self.assertEqual([(one | other).facts(z) for z in (0, 1)], [[(((0, 0, 2),), 2)], [(((0, 0, 3),), 3)]])
        with self.assertRaises(Clash) as caught:
            Knowledge(1, 1, (4, 6), [[], [([(0, 0, 1)], 0)]]) & other
        self.assertEqual(caught.exception.sheet, 1)
        self.assertEqual(caught.exception.factors, (caught.exception.factors[0], -caught.exception.factors[0] % 6))

    def test_unlike(self):
        told = Knowledge(2, 1, (4,), [[([(0, 0, 1)], 1)] * 300])
        for other in (Knowledge(1, 2, (4,), [[([(0, 0, 1)], 0)] * 300]), Knowledge(2, 1, (2,), [[]]),
                      Knowledge(2, 1, (4, 4), [[], []]), Knowledge(1, 1, (4,), [[]]), Knowledge(2, 2, (4,), [[]])):
            for call in (lambda: told & other, lambda: told | other, lambda: told.tells(other), lambda: other & told):
                with self.assertRaises(Unlike):
                    call()

    def test_operands_stay_as_they_are(self):
        one = Knowledge(1, 1, (4,), [[([(0, 0, 2)], 2)]])
        other = Knowledge(1, 1, (4,), [[([(0, 0, 1)], 3)]])
        one & other
        one | other
        self.assertEqual((one.facts(0), other.facts(0)), ([(((0, 0, 2),), 2)], [(((0, 0, 1),), 3)]))
        self.assertEqual((one.count(), other.count()), (2, 1))


if __name__ == "__main__":
    unittest.main()
