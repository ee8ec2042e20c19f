"""Point 81: cells that are found one after the other."""

import time
import unittest
from math import gcd

from keptpictures.knowledge.facts import known
from keptpictures.knowledge.knowledge import Knowledge
from keptpictures.knowledge.peeling import peeled
from keptpictures.hurts.remains import salvage
from keptpictures.files.plan import even_plan
from keptpictures.files.writer import write_file
from tests.helpers import are_plain_integers, chances, numbered, some_sheet
from tests.knowledge_by_hand import fitting, some_facts


def peeled_by_hand(told, z):
    """Return the rows, found by trying all samples of a cell in a fact that leaves just this one."""
    modulus, found = told.moduli[z], {}
    again = True
    while again and modulus > 1:
        again = False
        for terms, value in reversed(told.facts(z)):
            left = [term for term in terms if term[:2] not in found and term[2] % modulus]
            if len(left) != 1 or gcd(left[0][2], modulus) > 1:
                continue
            x, y, weight = left[0]
            rest = sum(own * found[i, j] for i, j, own in terms if (i, j) in found)
            fitting_samples = [sample for sample in range(modulus) if (weight * sample + rest - value) % modulus == 0]
            assert len(fitting_samples) == 1
            found[x, y] = fitting_samples[0]
            again = True
    return tuple(tuple(found.get((x, y)) for x in range(told.width)) for y in range(told.height))


class PeeledTest(unittest.TestCase):
    def test_one_after_the_other(self):
        told = Knowledge(3, 2, (10,), [[([(1, 0, 3), (2, 0, 7), (0, 0, 1)], 4), ([(0, 0, 3)], 9),
                                        ([(0, 0, 5), (2, 0, 9)], 6), ([(0, 1, 1), (1, 1, 1)], 3)]])
        # 3 * 3 is 9; 5 * 3 + 9 * 9 is 96; 3 + 7 * 9 + 3 * 6 is 84.
        self.assertEqual(peeled(told, 0), ((3, 6, 9), (None, None, None)))
        self.assertEqual(peeled(knowledge=told, z=0), ((3, 6, 9), (None, None, None)))

    def test_without_facts(self):
        self.assertEqual(peeled(Knowledge(2, 1, (4,), [[]]), 0), ((None, None),))
        self.assertEqual(peeled(Knowledge(1, 1, (4,), [[([], 0)]]), 0), ((None,),))

    def test_weights_with_a_common_divisor_find_nothing(self):
        told = Knowledge(2, 1, (6,), [[([(0, 0, 2)], 2), ([(0, 0, 3)], 3), ([(1, 0, 5)], 4)]])
        # The first sample is 1 all the same.
        self.assertEqual(peeled(told, 0), ((None, 2),))
        self.assertEqual(told.count(), 1)

    def test_the_facts_as_they_are_listed(self):
        facts = [([(0, 0, 1), (1, 0, 1)], 3), ([(0, 0, 1), (1, 0, 2)], 4)]
        told = Knowledge(2, 1, (5,), [facts])
        self.assertEqual(peeled(told, 0), ((None, None),))
        form = Knowledge(2, 1, (5,), [told.normal_form(0)])
        self.assertEqual(form, told)
        self.assertEqual(peeled(form, 0), ((2, 1),))

    def test_weights_that_vanish(self):
        told = Knowledge(2, 1, (6,), [[([(0, 0, 1), (1, 0, 12)], 5), ([(1, 0, 3), (1, 0, 2)], 1)]])
        self.assertEqual(peeled(told, 0), ((5, 5),))

    def test_modulo_1(self):
        self.assertEqual(peeled(Knowledge(2, 1, (1,), [[([(0, 0, 1)], 0)]]), 0), ((None, None),))

    def test_each_sheet_by_itself(self):
        told = Knowledge(1, 1, (2, 1, 3, 4), [[([(0, 0, 1)], 1)], [([(0, 0, 1)], 0)], [], [([(0, 0, 3)], 1)]])
        self.assertEqual([peeled(told, z) for z in range(4)], [((1,),), ((None,),), ((None,),), ((3,),)])

    def test_on_small_sheets(self):
        chance = chances(1)
        several = 0
        for modulus, width, height in ((2, 2, 2), (3, 2, 1), (4, 2, 1), (4, 3, 1), (6, 2, 1), (12, 2, 1), (5, 3, 1)):
            for _ in range(20):
                sheet = some_sheet(chance, modulus, width, height)
                facts = some_facts(chance, modulus, width, height, chance.randint(0, 5), sheet, 3)
                told = Knowledge(width, height, (modulus,), [facts])
                rows = peeled(told, 0)
                self.assertEqual(rows, peeled_by_hand(told, 0))
                chance.shuffle(facts)
                self.assertEqual(rows, peeled(Knowledge(width, height, (modulus,), [facts]), 0))
                found = [(x, y) for y in range(height) for x in range(width) if rows[y][x] is not None]
                several += len(found) > 1
                for other in fitting(modulus, width, height, facts):
                    self.assertTrue(all(other[x, y] == rows[y][x] for x, y in found))
        self.assertGreater(several, 20)

    def test_a_chain_at_the_bounds(self):
        for modulus in (65521, 65535, 65536):
            chain = [([(place % 8, place // 8, 7 ** place), ((place + 1) % 8, (place + 1) // 8, 11)], place)
                     for place in range(63)]
            begun = time.perf_counter()
            told = Knowledge(8, 8, (modulus,), [(chain + [([(7, 7, 2 ** 40 - 1)], 5 * (2 ** 40 - 1))]) * 6])
            rows = peeled(told, 0)
            self.assertLess(time.perf_counter() - begun, 10)
            if gcd(2 ** 40 - 1, modulus) > 1:
                self.assertEqual({sample for row in rows for sample in row}, {None})
            else:
                self.assertEqual(rows, told.least_sheet(0).rows)
                self.assertEqual((rows[7][7], told.count()), (5, 1))
                self.assertTrue(are_plain_integers(rows))

    def test_files_with_lost_rows(self):
        picture = numbered(4, 4, (4,))
        data = write_file(picture, even_plan(picture, spares=1, most=1, kind=1))
        starts = [place for place, byte in enumerate(data) if byte >= 128]
        told = known(salvage(data[:starts[2]] + data[starts[3]:]))
        self.assertEqual(peeled(told, 0), picture.planes[0].rows)
        told = known(salvage(data[:starts[5]]))
        self.assertEqual(peeled(told, 0), picture.planes[0].rows)
        told = known(salvage(data[:starts[4]]))
        self.assertEqual(peeled(told, 0), picture.planes[0].rows[:3] + ((None,) * 4,))

    def test_sharing(self):
        told = Knowledge(2, 1, (10,), [[([(0, 0, 1), (1, 0, 1)], 4), ([(0, 0, 3)], 9)]])
        before = told.facts(0)
        self.assertEqual(peeled(told, 0), ((3, 1),))
        self.assertEqual(told.facts(0), before)
        self.assertEqual(peeled(told, 0), ((3, 1),))


if __name__ == "__main__":
    unittest.main()
