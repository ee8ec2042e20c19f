"""Point 92: normal forms of files."""

import unittest

from keptpictures.errors import BadFile
from keptpictures.files.plan import Plan, even_plan
from keptpictures.files.whole import first_wrong, read_file, read_plan
from keptpictures.files.writer import write_file
from keptpictures.palettes.orders import palette_of
from keptpictures.pictures.picture import Picture
from keptpictures.planning.cheapest import cheapest
from keptpictures.planning.normal import normal_file, same_picture
from tests.files_by_hand import bytes_of, file_by_hand
from tests.helpers import are_plain_integers, chances, numbered, some_picture
from tests.planning_by_hand import cheapest_by_hand
from tests.test_writer import EXAMPLE, some_case


class NormalFileTest(unittest.TestCase):
    def test_the_cheapest_plan(self):
        chance = chances(1)
        for _ in range(40):
            picture, plan = some_case(chance)
            data = bytes_of(file_by_hand(picture, plan, chance))
            told = normal_file(data)
            self.assertEqual(told, write_file(picture, cheapest(picture)))
            self.assertEqual(read_file(told), picture)
            self.assertEqual(normal_file(told), told)
            self.assertEqual((read_plan(told).word, read_plan(told).spares), ("", 0))
            self.assertTrue(are_plain_integers(told))

    def test_a_search_over_all_plans(self):
        chance = chances(2)
        for _ in range(6):
            picture = some_picture(chance, chance.randint(1, 6), chance.randint(1, 2), (chance.randint(1, 2),))
            data = write_file(picture, even_plan(picture, word="ad", spares=2, kind=4))
            self.assertEqual(normal_file(data=data), write_file(picture, cheapest_by_hand(picture)))

    def test_pictures_with_a_mask_and_many_colours(self):
        chance = chances(3)
        for picture in (some_picture(chance, 5, 5, (4, 1), True), numbered(40, 40), numbered(8, 8), numbered(13, 5)):
            data = write_file(picture, even_plan(picture, word="da", spares=1, kind=1))
            self.assertEqual(read_file(normal_file(data)), picture)
            self.assertLessEqual(len(normal_file(data)), len(data))

    def test_bad_files(self):
        for data in ((), EXAMPLE[:-1], EXAMPLE + (0,), (128, 2, 0)):
            with self.assertRaises(BadFile) as caught:
                normal_file(data)
            self.assertEqual(caught.exception.at, first_wrong(data))


class SamePictureTest(unittest.TestCase):
    def test_files_of_one_picture(self):
        chance = chances(4)
        for _ in range(30):
            picture, plan = some_case(chance)
            data = write_file(picture, plan)
            other = write_file(picture, even_plan(picture, palette=None, word="a", kind=1))
            self.assertIs(same_picture(data, other), True)
            self.assertEqual(normal_file(data), normal_file(other))

    def test_files_of_other_pictures(self):
        chance = chances(5)
        base = Picture.of((2, 1), [[(1, 1), (2, 0)]])
        others = [Picture.of((2, 1), [[(1, 1), (2, 1)]]), Picture.of((2, 1), [[(1, 1), (2, 0)]], True),
                  Picture.of((3, 1), [[(1, 1), (2, 0)]]), Picture.of((2, 1), [[(1, 1)], [(2, 0)]]),
                  Picture.of((2, 1), [[(1, 1), (2, 0), (2, 0)]])]
        for other in others:
            for order in (None, "value", "first"):
                files = []
                for picture in (base, other):
                    palette = None if order is None else palette_of(picture, order).entries
                    files.append(write_file(picture, even_plan(picture, palette=palette)))
                self.assertIs(same_picture(files[0], files[1]), False)
                self.assertIs(same_picture(one=files[1], other=files[0]), False)
                self.assertNotEqual(normal_file(files[0]), normal_file(files[1]))
        # The same indices with other palettes.
        first = write_file(base, Plan(((1, 1), (2, 0)), chunks=[(1, 0, (0,))]))
        second = write_file(Picture.of((2, 1), [[(3, 1), (2, 0)]]), Plan(((3, 1), (2, 0)), chunks=[(1, 0, (0,))]))
        self.assertIs(same_picture(first, second), False)
        # An entry that is not used makes no difference.
        third = write_file(base, Plan(((0, 0), (2, 0), (1, 1)), chunks=[(1, 2, (chance.randrange(8),))]))
        self.assertIs(same_picture(first, third), True)

    def test_the_first_bad_file(self):
        for one, other, at in ((EXAMPLE[:5], (1,), 5), ((1,), EXAMPLE[:5], 0), (EXAMPLE, EXAMPLE[:7], 7),
                               ((), EXAMPLE, 0), (EXAMPLE + (1,), EXAMPLE, 25)):
            with self.assertRaises(BadFile) as caught:
                same_picture(one, other)
            self.assertEqual(caught.exception.at, at)


if __name__ == "__main__":
    unittest.main()
