"""Points 13 and 14: edits."""

import unittest

from keptpictures.errors import BadEdit
from keptpictures.pictures.picture import Picture
from keptpictures.pictures.recipe import apply_edits, recipe_of
from tests.edits_by_hand import by_hand, some_edits
from tests.helpers import chances, numbered, some_picture

SHAPE = (3, 2, (4, 1))

FITTING = (
    ("paint", 0, 0, 3, 2, (15, 1)),
    ("paint", 2, 1, 1, 1, (0, 0)),
    ("paint", 0, 1, 3, 1, (15, 0)),
    ("paint", 1, 0, 2, 2, (0, 1)),
    ("shift", 0, 65535),
    ("shift", 1, -65535),
    ("shift", 0, 0),
    ("mirror",),
    ("flip",),
    ("turn",),
    ("cut", 0, 0, 3, 2),
    ("cut", 2, 1, 1, 1),
    ("cut", 2, 0, 1, 2),
    ("cut", 0, 1, 3, 1),
)

RECTANGLES = (
    (0, 0, 4, 2), (0, 0, 3, 3), (1, 0, 3, 2), (0, 1, 3, 2), (3, 0, 1, 1), (0, 2, 1, 1), (2, 1, 2, 1), (2, 1, 1, 2),
    (0, 0, 0, 1), (0, 0, 1, 0), (0, 0, 0, 0), (0, 0, -1, 1), (0, 0, 1, -1), (3, 0, 0, 1), (2, 1, -1, -1),
    (3, 2, -3, -2), (1, 1, -1, 1),
    (-1, 0, 1, 1), (0, -1, 1, 1), (-1, 0, 2, 1), (0, -1, 1, 2), (-1, -1, 3, 2), (-3, -2, 3, 2),
    (-100000, 0, 100000, 1), (0, 0, 100000, 1), (0, 0, 1, 100000), (100000, 0, 1, 1), (0, 100000, 1, 1),
    (100000, 100000, -100000, -100000), (0, -100000, 1, 100000), (-99999, 0, 100000, 1),
)

MISFITS = tuple(("paint", *rectangle, (0, 0)) for rectangle in RECTANGLES) + tuple(
    ("cut", *rectangle) for rectangle in RECTANGLES) + tuple(
    ("paint", 0, 0, 1, 1, colour) for colour in (
        (), (0,), (0, 0, 0), (16, 0), (0, 2), (-1, 0), (0, -1), (1, 15), (100000, 0), (0, -100000), (0,) * 6)) + tuple(
    ("shift", plane, 1) for plane in (-1, -2, 2, 3, 100000, -100000))


class EditTest(unittest.TestCase):
    def setUp(self):
        self.picture = numbered(3, 2, (4, 1))

    def after(self, *edits):
        """Return the first samples of the numbered picture after the edits, row by row."""
        return [[colour[0] for colour in row] for row in apply_edits(self.picture, edits)]

    def test_paint(self):
        got = apply_edits(self.picture, [("paint", 1, 0, 2, 1, (9, 1))])
        self.assertEqual(got.rows, (((0, 0), (9, 1), (9, 1)), ((3, 0), (4, 0), (5, 0))))
        self.assertEqual(self.after(("paint", 0, 0, 1, 2, (9, 1))), [[9, 1, 2], [9, 4, 5]])
        self.assertEqual(self.after(("paint", 0, 0, 3, 2, (9, 1))), [[9, 9, 9], [9, 9, 9]])
        self.assertEqual(self.after(("paint", 2, 1, 1, 1, (9, 1))), [[0, 1, 2], [3, 4, 9]])

    def test_later_paint_covers_earlier_paint(self):
        got = self.after(("paint", 0, 0, 2, 2, (9, 0)), ("paint", 1, 1, 2, 1, (8, 0)))
        self.assertEqual(got, [[9, 9, 2], [9, 8, 8]])

    def test_shift(self):
        self.assertEqual(self.after(("shift", 0, 1)), [[1, 2, 3], [4, 5, 6]])
        self.assertEqual(self.after(("shift", 0, -3)), [[13, 14, 15], [0, 1, 2]])
        self.assertEqual(self.after(("shift", 0, 65535)), [[15, 0, 1], [2, 3, 4]])
        self.assertEqual(self.after(("shift", 0, -65535)), [[1, 2, 3], [4, 5, 6]])
        self.assertEqual(self.after(("shift", 0, 16)), [[0, 1, 2], [3, 4, 5]])
        self.assertEqual(self.after(("shift", 1, 1)), [[0, 1, 2], [3, 4, 5]])
        got = apply_edits(self.picture, [("shift", 1, 1)])
        self.assertEqual(got.rows[0], ((0, 1), (1, 1), (2, 1)))

    def test_shift_moves_painted_colours_too(self):
        got = apply_edits(self.picture, [("paint", 0, 0, 1, 1, (15, 1)), ("shift", 0, 2), ("shift", 1, 1)])
        self.assertEqual(got.rows, (((1, 0), (3, 1), (4, 1)), ((5, 1), (6, 1), (7, 1))))

    def test_shift_leaves_later_paint_alone(self):
        got = self.after(("shift", 0, 2), ("paint", 0, 0, 1, 1, (15, 1)))
        self.assertEqual(got, [[15, 3, 4], [5, 6, 7]])

    def test_mirror_flip_and_turn(self):
        self.assertEqual(self.after(("mirror",)), [[2, 1, 0], [5, 4, 3]])
        self.assertEqual(self.after(("flip",)), [[3, 4, 5], [0, 1, 2]])
        self.assertEqual(self.after(("turn",)), [[0, 3], [1, 4], [2, 5]])
        self.assertEqual(self.after(("turn",), ("mirror",)), [[3, 0], [4, 1], [5, 2]])
        self.assertEqual(self.after(("mirror",), ("turn",)), [[2, 5], [1, 4], [0, 3]])

    def test_cut(self):
        self.assertEqual(self.after(("cut", 1, 0, 2, 1)), [[1, 2]])
        self.assertEqual(self.after(("cut", 2, 0, 1, 2)), [[2], [5]])
        self.assertEqual(self.after(("cut", 2, 1, 1, 1)), [[5]])
        self.assertEqual(self.after(("cut", 0, 0, 3, 2)), [[0, 1, 2], [3, 4, 5]])
        self.assertEqual(self.after(("cut", 1, 0, 2, 2), ("cut", 1, 1, 1, 1)), [[5]])

    def test_no_edits(self):
        self.assertEqual(apply_edits(self.picture, []), self.picture)
        self.assertEqual(apply_edits(self.picture, ()), self.picture)

    def test_the_mask_stays_and_its_plane_is_edited_like_the_others(self):
        picture = Picture.of((4, 1), [[(3, 1), (4, 0)]], True)
        got = apply_edits(picture, [("shift", 1, 1), ("mirror",)])
        self.assertEqual(got, Picture.of((4, 1), [[(4, 1), (3, 0)]], True))
        self.assertIs(apply_edits(picture, []).mask, True)
        for edit in FITTING:
            for mask in (False, True):
                before = numbered(*SHAPE)
                before = Picture(before.planes, mask)
                self.assertIs(apply_edits(before, [edit]).mask, mask)

    def test_many_edits_do_what_they_do_by_hand(self):
        chance = chances(10)
        for _ in range(150):
            depths = chance.choice(((1,), (16,), (3, 1), (2, 5, 1), (8, 8, 8, 1)))
            width, height = chance.randint(1, 6), chance.randint(1, 6)
            mask = len(depths) > 1 and chance.randrange(2) == 1
            picture = some_picture(chance, width, height, depths, mask)
            edits = some_edits(chance, (width, height, depths), chance.randrange(8))
            self.assertEqual(apply_edits(picture, edits), by_hand(picture, edits), edits)

    def test_the_greatest_pictures(self):
        chance = chances(11)
        for width, height in ((40, 40), (40, 1), (1, 40)):
            picture = some_picture(chance, width, height, (16, 16, 16, 1), True)
            edits = some_edits(chance, (width, height, (16, 16, 16, 1)), 6)
            self.assertEqual(apply_edits(picture, edits), by_hand(picture, edits))


class BadEditTest(unittest.TestCase):
    def refused(self, edits, place):
        for run in (lambda: apply_edits(numbered(*SHAPE), edits), lambda: recipe_of(SHAPE, *edits)):
            with self.assertRaises(BadEdit) as caught:
                run()
            self.assertEqual(caught.exception.place, place, edits)

    def test_edits_that_just_fit(self):
        for edit in FITTING:
            apply_edits(numbered(*SHAPE), [edit])
            recipe_of(SHAPE, edit)

    def test_edits_that_do_not_fit(self):
        for edit in MISFITS:
            self.refused([edit], 0)

    def test_the_first_edit_that_does_not_fit_is_named(self):
        for edit in MISFITS[::5]:
            self.refused([("mirror",), ("flip",), edit], 2)
            self.refused([("shift", 0, 1), edit, ("cut", 0, 0, 9, 9)], 1)
            self.refused([edit, edit], 0)

    def test_each_edit_must_fit_the_shape_that_those_before_leave(self):
        self.refused([("turn",), ("cut", 0, 0, 3, 2)], 1)
        self.refused([("turn",), ("paint", 2, 0, 1, 1, (0, 0))], 1)
        self.refused([("cut", 0, 0, 2, 2), ("cut", 0, 0, 3, 2)], 1)
        self.refused([("cut", 1, 1, 2, 1), ("paint", 0, 1, 1, 1, (0, 0))], 1)
        self.refused([("turn",), ("turn",), ("turn",), ("paint", 0, 0, 3, 1, (0, 0))], 3)
        self.assertEqual(apply_edits(numbered(*SHAPE), [("turn",), ("cut", 0, 0, 2, 3)]).height, 3)
        self.assertEqual(recipe_of(SHAPE, ("turn",), ("turn",), ("cut", 0, 0, 3, 2)).after, SHAPE)

    def test_the_depths_of_the_shape_count(self):
        one = (2, 2, (4,))
        recipe_of(one, ("paint", 0, 0, 1, 1, (15,)), ("shift", 0, 1))
        for edit in (("paint", 0, 0, 1, 1, (16,)), ("paint", 0, 0, 1, 1, (0, 0)), ("shift", 1, 1)):
            with self.assertRaises(BadEdit):
                recipe_of(one, edit)


class SharingTest(unittest.TestCase):
    def test_the_edits_and_the_picture_stay(self):
        edits = [("turn",), ("paint", 0, 0, 1, 1, (9, 1)), ("shift", 0, 3), ("cut", 0, 0, 1, 1)]
        before = list(edits)
        picture = numbered(*SHAPE)
        rows = picture.rows
        apply_edits(picture, edits)
        recipe_of(SHAPE, *edits)
        self.assertEqual(edits, before)
        self.assertEqual(picture.rows, rows)

    def test_the_edits_are_not_kept(self):
        edits = [("mirror",)]
        picture, recipe = apply_edits(numbered(*SHAPE), edits), recipe_of(SHAPE, *edits)
        edits[0] = ("flip",)
        edits.append(("turn",))
        self.assertEqual(picture, recipe(numbered(*SHAPE)))
        self.assertEqual([colour[0] for colour in picture.rows[0]], [2, 1, 0])

    def test_a_refused_list_changes_nothing(self):
        edits = [("mirror",), ("cut", 0, 0, 9, 9)]
        picture = numbered(*SHAPE)
        with self.assertRaises(BadEdit):
            apply_edits(picture, edits)
        self.assertEqual(edits, [("mirror",), ("cut", 0, 0, 9, 9)])
        self.assertEqual(picture, numbered(*SHAPE))


if __name__ == "__main__":
    unittest.main()
