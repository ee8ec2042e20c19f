"""Points 15 to 18: recipes."""

import itertools
import unittest

from keptpictures.errors import Unlike
from keptpictures.pictures.picture import Picture
from keptpictures.pictures.recipe import Recipe, apply_edits, parting_picture, recipe_of
from tests.edits_by_hand import by_hand, some_edits
from tests.helpers import all_pictures, are_plain_integers, chances, numbered, some_picture

SMALL = (2, 1, (1,))
EDITS_OF_SMALL = (
    ("paint", 0, 0, 1, 1, (0,)), ("paint", 0, 0, 1, 1, (1,)), ("paint", 1, 0, 1, 1, (1,)), ("paint", 0, 0, 2, 1, (0,)),
    ("paint", 0, 0, 2, 1, (1,)), ("shift", 0, 1), ("mirror",), ("cut", 0, 0, 1, 1), ("cut", 1, 0, 1, 1),
)


def cell(x, y):
    return ("cell", x, y)


def has_right_form(recipe):
    """Tell whether a recipe has the form of point 15."""
    width, height, depths = recipe.after
    entries = [entry for row in recipe.entries for entry in row]
    cells = [entry for entry in entries if entry[0] == "cell"]
    colours = [entry for entry in entries if entry[0] == "colour"]
    bounds = [2 ** depth if cells else 1 for depth in depths]
    return (
        type(recipe.entries) is tuple and all(type(row) is tuple for row in recipe.entries)
        and len(recipe.entries) == height and all(len(row) == width for row in recipe.entries)
        and len(cells) + len(colours) == len(entries)
        and all(type(entry) is tuple and are_plain_integers(entry[1:]) for entry in entries)
        and all(0 <= x < recipe.before[0] and 0 <= y < recipe.before[1] for _, x, y in cells)
        and all(len(colour) == len(depths) for _, colour in colours)
        and all(0 <= sample < 2 ** depth for _, colour in colours for sample, depth in zip(colour, depths))
        and type(recipe.shifts) is tuple and are_plain_integers(recipe.shifts) and len(recipe.shifts) == len(depths)
        and all(0 <= shift < bound for shift, bound in zip(recipe.shifts, bounds))
    )


class RecipeTest(unittest.TestCase):
    def test_attributes(self):
        recipe = recipe_of((3, 2, (4, 1)), ("turn",), ("shift", 0, -1), ("paint", 1, 2, 1, 1, (9, 1)))
        self.assertEqual(recipe.before, (3, 2, (4, 1)))
        self.assertEqual(recipe.after, (2, 3, (4, 1)))
        self.assertEqual(recipe.shifts, (15, 0))
        self.assertEqual(recipe.entries, (
            (cell(0, 0), cell(0, 1)),
            (cell(1, 0), cell(1, 1)),
            (cell(2, 0), ("colour", (9, 1))),
        ))
        self.assertIsInstance(recipe, Recipe)
        self.assertTrue(has_right_form(recipe))

    def test_each_edit(self):
        shape = (3, 2, (4, 1))
        rows = [[cell(x, y) for x in range(3)] for y in range(2)]
        paint = ("colour", (9, 1))
        cases = (
            (("paint", 1, 0, 2, 1, (9, 1)), [[cell(0, 0), paint, paint], rows[1]], (0, 0)),
            (("shift", 0, 17), rows, (1, 0)),
            (("shift", 1, -1), rows, (0, 1)),
            (("mirror",), [row[::-1] for row in rows], (0, 0)),
            (("flip",), rows[::-1], (0, 0)),
            (("turn",), [[cell(x, y) for y in range(2)] for x in range(3)], (0, 0)),
            (("cut", 1, 1, 2, 1), [[cell(1, 1), cell(2, 1)]], (0, 0)),
        )
        for edit, entries, shifts in cases:
            recipe = recipe_of(shape, edit)
            self.assertEqual(recipe.entries, tuple(tuple(row) for row in entries))
            self.assertEqual(recipe.shifts, shifts)
            self.assertEqual((recipe.before, recipe.after), (shape, (len(entries[0]), len(entries), (4, 1))))

    def test_the_recipe_of_no_edits_leaves_every_picture_as_it_is(self):
        for shape in ((1, 1, (1,)), (3, 2, (4, 1)), (40, 40, (16, 16, 16, 1))):
            recipe = recipe_of(shape)
            self.assertEqual((recipe.before, recipe.after), (shape, shape))
            self.assertEqual(recipe.shifts, (0,) * len(shape[2]))
            self.assertEqual(recipe.entries[-1][-1], cell(shape[0] - 1, shape[1] - 1))
            picture = some_picture(chances(12), *shape)
            self.assertEqual(recipe(picture), picture)

    def test_without_cell_entries_all_shifts_are_0(self):
        shape = (2, 2, (4, 1))
        for edits in ([("shift", 0, 3), ("paint", 0, 0, 2, 2, (1, 1))],
                      [("paint", 0, 0, 2, 2, (14, 1)), ("shift", 0, 3)],
                      [("shift", 0, 5), ("paint", 0, 0, 1, 1, (1, 1)), ("cut", 0, 0, 1, 1)],
                      [("paint", 0, 0, 2, 1, (1, 1)), ("shift", 0, 5), ("cut", 0, 0, 2, 1), ("shift", 1, 1)]):
            recipe = recipe_of(shape, *edits)
            self.assertEqual(recipe.shifts, (0, 0), edits)
            self.assertTrue(has_right_form(recipe), edits)
        self.assertEqual(recipe_of(shape, ("paint", 0, 0, 2, 2, (14, 1)), ("shift", 0, 3)).entries,
                         ((("colour", (1, 1)),) * 2,) * 2)
        self.assertEqual(recipe_of(shape, ("shift", 0, 3), ("paint", 0, 0, 2, 2, (14, 1))).entries,
                         ((("colour", (14, 1)),) * 2,) * 2)

    def test_painted_colours_are_shifted_by_later_shifts_alone(self):
        edits = (("shift", 0, 2), ("paint", 0, 0, 1, 1, (15, 0)), ("shift", 0, 3), ("shift", 1, 1))
        recipe = recipe_of((2, 1, (4, 1)), *edits)
        self.assertEqual(recipe.entries, ((("colour", (2, 1)), cell(1, 0)),))
        self.assertEqual(recipe.shifts, (5, 1))

    def test_a_recipe_does_what_its_edits_do(self):
        chance = chances(13)
        for _ in range(150):
            depths = chance.choice(((1,), (16,), (3, 1), (2, 5, 1), (8, 8, 8, 1)))
            shape = (chance.randint(1, 5), chance.randint(1, 5), depths)
            edits = some_edits(chance, shape, chance.randrange(8))
            recipe = recipe_of(shape, *edits)
            self.assertTrue(has_right_form(recipe), edits)
            for mask in (False, len(depths) > 1):
                picture = some_picture(chance, *shape, mask)
                done = recipe(picture)
                self.assertEqual(done, by_hand(picture, edits), edits)
                self.assertEqual(done, apply_edits(picture, edits))
                self.assertEqual((done.width, done.height, done.depths), recipe.after)
                self.assertIs(done.mask, mask)

    def test_pictures_of_another_shape(self):
        recipe = recipe_of((3, 2, (4, 1)), ("mirror",))
        for shape in ((2, 3, (4, 1)), (3, 1, (4, 1)), (4, 2, (4, 1)), (3, 2, (3, 1)), (3, 2, (4,)), (3, 2, (4, 1, 1))):
            with self.assertRaises(Unlike):
                recipe(some_picture(chances(14), *shape))

    def test_a_recipe_is_applied_to_the_shape_before(self):
        recipe = recipe_of((3, 2, (4,)), ("turn",))
        self.assertEqual(recipe(numbered(3, 2, (4,))).width, 2)
        with self.assertRaises(Unlike):
            recipe(numbered(2, 3, (4,)))


class EqualityTest(unittest.TestCase):
    def test_recipes_are_equal_exactly_if_they_do_the_same(self):
        recipes = [recipe_of(SMALL)]
        for edits in itertools.product(EDITS_OF_SMALL, repeat=2):
            if edits[0][0] != "cut" or edits[1][0] in ("shift", "mirror"):
                recipes.append(recipe_of(SMALL, *edits))
        pictures = all_pictures(*SMALL)
        deeds = [[recipe(picture) for picture in pictures] for recipe in recipes]
        for one, mine in zip(recipes, deeds):
            for other, its in zip(recipes, deeds):
                self.assertEqual(one == other, mine == its)
                self.assertEqual(one != other, mine != its)
                self.assertEqual(parting_picture(one, other) is None, mine == its)

    def test_different_lists_may_have_equal_recipes(self):
        shape = (3, 2, (4, 1))
        same = (
            ((("mirror",), ("mirror",)), ()),
            ((("turn",), ("turn",)), ()),
            ((("flip",), ("mirror",)), (("mirror",), ("flip",))),
            ((("shift", 0, 16),), ()),
            ((("shift", 0, 3), ("shift", 0, -4)), (("shift", 0, 15),)),
            ((("cut", 0, 0, 3, 2),), ()),
            ((("paint", 0, 0, 1, 1, (1, 1)), ("paint", 0, 0, 3, 2, (2, 1))), (("paint", 0, 0, 3, 2, (2, 1)),)),
            ((("shift", 1, 1), ("paint", 0, 0, 3, 2, (2, 1))), (("paint", 0, 0, 3, 2, (2, 1)),)),
            ((("turn",), ("flip",), ("turn",)), (("mirror",),)),
        )
        for first, second in same:
            self.assertTrue(recipe_of(shape, *first) == recipe_of(shape, *second), first)
            self.assertFalse(recipe_of(shape, *first) != recipe_of(shape, *second), first)

    def test_shapes_entries_and_shifts_count(self):
        shape = (2, 2, (4, 1))
        recipe = recipe_of(shape)
        for other in (recipe_of((2, 2, (3, 1))), recipe_of((2, 2, (4,))), recipe_of((2, 1, (4, 1))),
                      recipe_of(shape, ("mirror",)), recipe_of(shape, ("shift", 1, 1)),
                      recipe_of(shape, ("cut", 0, 0, 2, 1))):
            self.assertFalse(recipe == other)
            self.assertTrue(recipe != other)
        wide = recipe_of((2, 1, (1,)), ("paint", 0, 0, 2, 1, (0,)), ("cut", 0, 0, 1, 1))
        high = recipe_of((1, 2, (1,)), ("paint", 0, 0, 1, 2, (0,)), ("cut", 0, 0, 1, 1))
        self.assertEqual((wide.entries, wide.shifts, wide.after), (high.entries, high.shifts, high.after))
        self.assertFalse(wide == high)
        deep = recipe_of((1, 1, (2,)), ("paint", 0, 0, 1, 1, (0,)))
        flat = recipe_of((1, 1, (1,)), ("paint", 0, 0, 1, 1, (0,)))
        self.assertFalse(deep == flat)

    def test_a_recipe_equals_nothing_but_recipes(self):
        recipe = recipe_of(SMALL)
        for other in (recipe.entries, None, 0, (), [], "recipe", numbered(2, 1), (SMALL, SMALL, recipe.entries, (0,))):
            self.assertFalse(recipe == other)
            self.assertFalse(other == recipe)


class ThenTest(unittest.TestCase):
    def test_first_the_first_and_then_the_second(self):
        chance = chances(15)
        for _ in range(150):
            depths = chance.choice(((1,), (3, 1), (8, 2, 1)))
            shape = (chance.randint(1, 4), chance.randint(1, 4), depths)
            edits = some_edits(chance, shape, chance.randrange(4))
            first = recipe_of(shape, *edits)
            more = some_edits(chance, first.after, chance.randrange(4))
            second = recipe_of(first.after, *more)
            both = first >> second
            self.assertTrue(has_right_form(both))
            self.assertEqual(both, recipe_of(shape, *edits, *more))
            picture = some_picture(chance, *shape)
            self.assertEqual(both(picture), second(first(picture)))

    def test_the_order_counts(self):
        shape = (2, 1, (4,))
        paint, mirror = recipe_of(shape, ("paint", 0, 0, 1, 1, (9,))), recipe_of(shape, ("mirror",))
        self.assertEqual((paint >> mirror).entries, ((cell(1, 0), ("colour", (9,))),))
        self.assertEqual((mirror >> paint).entries, ((("colour", (9,)), cell(0, 0)),))

    def test_shifts_add_up_and_reach_the_colours_before_them(self):
        shape = (2, 1, (4,))
        paint, shift = recipe_of(shape, ("paint", 0, 0, 1, 1, (9,))), recipe_of(shape, ("shift", 0, 9))
        self.assertEqual((paint >> shift).entries, ((("colour", (2,)), cell(1, 0)),))
        self.assertEqual((shift >> paint).entries, ((("colour", (9,)), cell(1, 0)),))
        self.assertEqual((paint >> shift).shifts, (9,))
        self.assertEqual((shift >> shift).shifts, (2,))

    def test_when_no_cell_is_left_the_shifts_are_0(self):
        shape = (2, 1, (4,))
        left = recipe_of(shape, ("shift", 0, 3), ("paint", 0, 0, 1, 1, (9,)))
        cut = recipe_of(shape, ("shift", 0, 4), ("cut", 0, 0, 1, 1))
        both = left >> cut
        self.assertEqual((both.entries, both.shifts), (((("colour", (13,)),),), (0,)))
        self.assertEqual(both, recipe_of(shape, ("paint", 0, 0, 2, 1, (13,)), ("cut", 1, 0, 1, 1)))

    def test_the_empty_recipe_changes_nothing(self):
        shape = (3, 2, (4, 1))
        recipe = recipe_of(shape, ("turn",), ("shift", 0, 5))
        self.assertEqual(recipe_of(shape) >> recipe, recipe)
        self.assertEqual(recipe >> recipe_of((2, 3, (4, 1))), recipe)

    def test_shapes_must_meet(self):
        turn = recipe_of((3, 2, (4,)), ("turn",))
        for other in (recipe_of((3, 2, (4,))), recipe_of((2, 3, (3,))), recipe_of((2, 3, (4, 1))),
                      recipe_of((2, 2, (4,))), recipe_of((1, 3, (4,)))):
            with self.assertRaises(Unlike):
                turn >> other
        with self.assertRaises(Unlike):
            turn >> turn
        self.assertEqual(turn >> recipe_of((2, 3, (4,)), ("turn",)), recipe_of((3, 2, (4,))))

    def test_operands_stay(self):
        shape = (2, 1, (4,))
        one, other = recipe_of(shape, ("shift", 0, 3)), recipe_of(shape, ("mirror",))
        one >> other
        self.assertEqual(one, recipe_of(shape, ("shift", 0, 3)))
        self.assertEqual(other, recipe_of(shape, ("mirror",)))


class PartingPictureTest(unittest.TestCase):
    def check(self, one, other):
        picture = parting_picture(one, other)
        if one == other:
            self.assertIsNone(picture)
            return
        self.assertIsInstance(picture, Picture)
        self.assertEqual((picture.width, picture.height, picture.depths), one.before)
        self.assertIs(picture.mask, False)
        self.assertNotEqual(one(picture), other(picture))

    def test_many_pairs(self):
        chance = chances(16)
        for _ in range(400):
            depths = chance.choice(((1,), (1, 1), (3, 1), (2, 16)))
            shape = (chance.randint(1, 3), chance.randint(1, 3), depths)
            edits = some_edits(chance, shape, chance.randrange(4))
            more = list(edits)
            if chance.randrange(2):
                more = some_edits(chance, shape, chance.randrange(4))
            elif edits:
                more.pop(chance.randrange(len(more)))
                try:
                    recipe_of(shape, *more)
                except ValueError:
                    more = []
            self.check(recipe_of(shape, *edits), recipe_of(shape, *more))

    def test_differences_that_are_hard_to_see(self):
        shape = (3, 2, (4, 1))
        pairs = (
            ([("mirror",)], []),
            ([("mirror",)], [("flip",)]),
            ([("shift", 1, 1)], []),
            ([("shift", 0, 1)], [("shift", 0, 2)]),
            ([("paint", 2, 1, 1, 1, (0, 0))], []),
            ([], [("paint", 2, 1, 1, 1, (0, 0))]),
            ([("paint", 2, 1, 1, 1, (3, 1)), ("shift", 0, 1)], [("shift", 0, 1)]),
            ([("shift", 0, 4), ("shift", 1, 1), ("paint", 2, 1, 1, 1, (4, 1))], [("shift", 0, 4), ("shift", 1, 1)]),
            ([("paint", 0, 0, 3, 2, (0, 0))], [("paint", 0, 0, 3, 2, (0, 1))]),
            ([("paint", 0, 0, 3, 2, (0, 0))], []),
            ([("cut", 0, 0, 1, 2)], [("cut", 1, 0, 1, 2)]),
            ([("cut", 0, 0, 1, 1)], [("cut", 0, 0, 2, 1)]),
            ([("turn",)], []),
            ([("turn",), ("cut", 0, 0, 2, 2)], [("cut", 0, 0, 2, 2)]),
        )
        for first, second in pairs:
            self.check(recipe_of(shape, *first), recipe_of(shape, *second))
            self.check(recipe_of(shape, *second), recipe_of(shape, *first))

    def test_the_only_difference_may_be_in_the_last_cell(self):
        shape = (40, 40, (16, 16, 16, 1))
        recipe = recipe_of(shape, ("shift", 0, 7))
        other = recipe_of(shape, ("shift", 0, 7), ("paint", 39, 39, 1, 1, (7, 0, 0, 0)))
        self.check(recipe, other)
        self.check(other, recipe)

    def test_shapes_before_must_be_equal(self):
        recipe = recipe_of((3, 2, (4, 1)))
        for other in (recipe_of((2, 3, (4, 1)), ("turn",)), recipe_of((3, 2, (3, 1))), recipe_of((3, 2, (4,))),
                      recipe_of((3, 3, (4, 1)), ("cut", 0, 0, 3, 2))):
            for one, two in ((recipe, other), (other, recipe)):
                with self.assertRaises(Unlike):
                    parting_picture(one, two)


class UndoneTest(unittest.TestCase):
    def test_an_example(self):
        recipe = recipe_of((3, 2, (4, 1)), ("turn",), ("shift", 0, 5))
        undone = recipe.undone()
        self.assertEqual(undone, recipe_of((2, 3, (4, 1)), ("shift", 0, -5), ("turn",)))
        self.assertEqual(undone.shifts, (11, 0))
        self.assertEqual((undone.before, undone.after), (recipe.after, recipe.before))

    def test_recipes_that_lose_no_cell_are_undone(self):
        chance = chances(17)
        for _ in range(60):
            depths = chance.choice(((1,), (3, 1), (8, 16, 1)))
            shape = (chance.randint(1, 5), chance.randint(1, 5), depths)
            edits = some_edits(chance, shape, chance.randrange(6), ("shift", "mirror", "flip", "turn"))
            recipe = recipe_of(shape, *edits)
            undone = recipe.undone()
            self.assertTrue(has_right_form(undone))
            self.assertEqual(recipe >> undone, recipe_of(shape))
            self.assertEqual(undone >> recipe, recipe_of(recipe.after))
            self.assertEqual(undone.undone(), recipe)
            picture = some_picture(chance, *shape)
            self.assertEqual(undone(recipe(picture)), picture)

    def test_recipes_that_lose_a_cell_are_not(self):
        shape = (3, 2, (4, 1))
        for edits in ([("paint", 2, 1, 1, 1, (0, 0))], [("paint", 0, 0, 3, 2, (0, 0))], [("cut", 0, 0, 2, 2)],
                      [("cut", 0, 0, 3, 1)], [("turn",), ("paint", 1, 0, 1, 1, (5, 1)), ("mirror",)],
                      [("mirror",), ("cut", 0, 0, 1, 1), ("shift", 0, 3)]):
            self.assertIsNone(recipe_of(shape, *edits).undone(), edits)

    def test_the_empty_recipe_undoes_itself(self):
        for shape in ((1, 1, (1,)), (40, 40, (16, 1))):
            self.assertEqual(recipe_of(shape).undone(), recipe_of(shape))

    def test_cutting_nothing_off_is_undone(self):
        recipe = recipe_of((3, 2, (4, 1)), ("cut", 0, 0, 3, 2))
        self.assertEqual(recipe.undone(), recipe_of((3, 2, (4, 1))))

    def test_it_exists_exactly_if_every_cell_occurs(self):
        chance = chances(18)
        for _ in range(150):
            shape = (chance.randint(1, 3), chance.randint(1, 3), (2,))
            recipe = recipe_of(shape, *some_edits(chance, shape, chance.randrange(4)))
            entries = [entry for row in recipe.entries for entry in row]
            whole = all(cell(x, y) in entries for x in range(shape[0]) for y in range(shape[1]))
            self.assertEqual(recipe.undone() is not None, whole)
            if whole:
                self.assertEqual(recipe >> recipe.undone(), recipe_of(shape))


if __name__ == "__main__":
    unittest.main()
