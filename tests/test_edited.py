"""Points 82 and 83: knowledge about pictures after a recipe, compared with the edited bodies."""

import unittest
from itertools import product

from keptpictures.errors import KeepError, NoColour, Unlike
from keptpictures.knowledge.edited import edited, edited_colours
from keptpictures.knowledge.knowledge import Knowledge
from keptpictures.palettes.palette import Palette
from keptpictures.pictures.picture import Picture
from keptpictures.pictures.recipe import apply_edits, recipe_of
from keptpictures.sheets.question import Question
from keptpictures.sheets.sheet import Sheet
from tests.edits_by_hand import some_edits
from tests.helpers import chances, some_picture, some_sheet
from tests.knowledge_by_hand import all_sheets, some_facts

SHAPES = ((1, 1, (2,)), (2, 1, (2,)), (2, 2, (1,)), (1, 2, (1, 1)), (3, 1, (1,)), (2, 1, (1, 2)))


def all_bodies(width, height, moduli):
    return list(product(*[all_sheets(modulus, width, height) for modulus in moduli]))


def some_knowledge(chance, width, height, moduli, many=3):
    """Return knowledge that at least one body fits."""
    facts = []
    for modulus in moduli:
        sheet = some_sheet(chance, modulus, width, height)
        facts.append(some_facts(chance, modulus, width, height, chance.randint(0, many), sheet))
    return Knowledge(width, height, moduli, facts)


def keys(bodies):
    return sorted(tuple(sheet.rows for sheet in body) for body in bodies)


class EditedTest(unittest.TestCase):
    def require_settled(self, told):
        for z in range(len(told.moduli)):
            self.assertEqual(told.facts(z), list(told.normal_form(z)))

    def test_by_hand(self):
        told = Knowledge(2, 1, (4,), [[([(0, 0, 1), (1, 0, 1)], 3), ([(1, 0, 2)], 2)]])
        shape = (2, 1, (2,))
        for edit, facts in ((("mirror",), [(((0, 0, 1), (1, 0, 1)), 3), (((1, 0, 2),), 0)]),
                            (("shift", 0, 1), [(((0, 0, 1), (1, 0, 1)), 1), (((1, 0, 2),), 0)]),
                            (("cut", 0, 0, 1, 1), [(((0, 0, 2),), 0)]),
                            (("cut", 1, 0, 1, 1), [(((0, 0, 2),), 2)]),
                            (("paint", 0, 0, 1, 1, (3,)), [(((0, 0, 1),), 3), (((1, 0, 2),), 2)]),
                            (("turn",), [(((0, 0, 1), (0, 1, 1)), 3), (((0, 1, 2),), 2)])):
            after = edited(told, recipe_of(shape, edit))
            self.assertEqual(after.facts(0), list(after.normal_form(0)))
            same = Knowledge(after.width, after.height, (4,), [facts])
            self.assertEqual(after, same, edit)
        self.assertEqual(edited(knowledge=told, recipe=recipe_of(shape)), told)
        self.assertEqual((told.facts(0)[0], told.width), ((((0, 0, 1), (1, 0, 1)), 3), 2))

    def test_what_is_known_of_a_cell_that_is_left(self):
        # The sum of two cells that are lost and one that stays tells nothing; two such sums tell their difference.
        told = Knowledge(3, 1, (8,), [[([(0, 0, 1), (1, 0, 2)], 5)]])
        self.assertEqual(edited(told, recipe_of((3, 1, (3,)), ("cut", 1, 0, 2, 1))).facts(0), [])
        told = Knowledge(3, 1, (8,), [[([(0, 0, 1), (1, 0, 2)], 5), ([(0, 0, 1), (2, 0, 3)], 2)]])
        after = edited(told, recipe_of((3, 1, (3,)), ("cut", 1, 0, 2, 1)))
        self.assertEqual(after, Knowledge(2, 1, (8,), [[([(0, 0, 2), (1, 0, -3)], 3)]]))

    def test_the_edited_bodies(self):
        chance = chances(1)
        for _ in range(150):
            width, height, depths = shape = chance.choice(SHAPES)
            moduli = tuple(2 ** depth for depth in depths)
            told = some_knowledge(chance, width, height, moduli)
            recipe = recipe_of(shape, *some_edits(chance, shape, chance.randint(0, 4)))
            after = edited(told, recipe)
            made = [recipe(Picture(body)).planes for body in all_bodies(width, height, moduli) if told.allows(body)]
            wide, high, _ = recipe.after
            self.assertEqual((after.width, after.height, after.moduli), (wide, high, moduli))
            fit = [body for body in all_bodies(wide, high, moduli) if after.allows(body)]
            self.assertEqual(keys(fit), sorted(set(keys(made))))
            self.require_settled(after)

    def test_recipes_one_after_the_other(self):
        chance = chances(2)
        for _ in range(60):
            shape = chance.choice(((4, 3, (5,)), (8, 8, (2, 1)), (3, 5, (16,)), (8, 2, (1,) * 4)))
            width, height, depths = shape
            moduli = tuple(2 ** depth for depth in depths)
            told = some_knowledge(chance, width, height, moduli, 12)
            first = recipe_of(shape, *some_edits(chance, shape, 2))
            second = recipe_of(first.after, *some_edits(chance, first.after, 2))
            self.assertEqual(edited(edited(told, first), second), edited(told, first >> second))
            undone = first.undone()
            if undone is not None:
                self.assertEqual(edited(edited(told, first), undone), told)

    def test_the_picture_stays_allowed(self):
        chance = chances(3)
        for _ in range(40):
            depths = chance.choice(((5,), (2, 1), (16, 1, 3), (1, 1, 1, 1)))
            picture = some_picture(chance, 8, 8, depths)
            facts = [some_facts(chance, plane.modulus, 8, 8, 40, plane, 5) for plane in picture.planes]
            told = Knowledge(8, 8, tuple(plane.modulus for plane in picture.planes), facts)
            edits = some_edits(chance, (8, 8, depths), 3)
            after = edited(told, recipe_of((8, 8, depths), *edits))
            self.assertTrue(after.allows(apply_edits(picture, edits).planes))

    def test_painted_cells_are_known(self):
        told = Knowledge(2, 2, (4, 2), [[], []])
        after = edited(told, recipe_of((2, 2, (2, 1)), ("paint", 0, 0, 2, 1, (3, 1)), ("shift", 0, 2)))
        self.assertEqual([after.answer(z, Question.cell(1, 0)) for z in (0, 1)], [(1, 4), (1, 2)])
        self.assertEqual([after.answer(z, Question.cell(1, 1)) for z in (0, 1)], [(0, 1), (0, 1)])
        self.assertEqual(after.count(), (4 * 2) ** 2)

    def test_unlike(self):
        told = Knowledge(2, 1, (4, 2), [[], []])
        for shape in ((1, 2, (2, 1)), (2, 1, (2,)), (2, 1, (1, 2)), (2, 2, (2, 1)), (3, 1, (2, 1)), (2, 1, (2, 1, 1))):
            with self.assertRaises(Unlike):
                edited(told, recipe_of(shape))
        for modulus in (1, 3, 5, 6):
            with self.assertRaises(Unlike):
                edited(Knowledge(1, 1, (modulus,), [[]]), recipe_of((1, 1, (2,))))
        self.assertEqual(edited(told, recipe_of((2, 1, (2, 1)))), told)


class EditedColoursTest(unittest.TestCase):
    def test_by_hand(self):
        palette = Palette([(0, 3), (1, 0), (1, 1)], (1, 2))
        told = Knowledge(2, 1, (3,), [[([(0, 0, 1), (1, 0, 1)], 1)]])
        shape = (2, 1, (1, 2))
        after, colours = edited_colours(told, palette, recipe_of(shape, ("shift", 1, 1), ("mirror",)))
        self.assertEqual(colours, Palette([(0, 0), (1, 1), (1, 2)], (1, 2)))
        self.assertEqual(after, told)
        after, colours = edited_colours(knowledge=told, palette=palette,
                                        recipe=recipe_of(shape, ("shift", 0, 1), ("paint", 1, 0, 1, 1, (0, 0))))
        self.assertEqual(colours, Palette([(1, 3), (0, 0), (0, 1)], (1, 2)))
        self.assertEqual(after.facts(0), [(((1, 0, 1),), 1)])
        recipe = recipe_of(shape, ("paint", 1, 0, 1, 1, (1, 1)), ("cut", 1, 0, 1, 1))
        after, colours = edited_colours(told, palette, recipe)
        self.assertEqual((after.facts(0), colours), ([(((0, 0, 1),), 2)], palette))

    def test_the_edited_pictures(self):
        chance = chances(4)
        refused = 0
        for _ in range(200):
            width, height, depths = shape = chance.choice(SHAPES)
            colours = [colour for colour in product(*[range(2 ** depth) for depth in depths])]
            chance.shuffle(colours)
            palette = Palette(colours[:chance.randint(1, min(4, len(colours)))], depths)
            moduli = (len(palette),)
            told = some_knowledge(chance, width, height, moduli)
            recipe = recipe_of(shape, *some_edits(chance, shape, chance.randint(0, 4)))
            new = palette
            for plane, shift in enumerate(recipe.shifts):
                new = new.shifted(plane, shift)
            missing = [entry[1] for row in recipe.entries for entry in row
                       if entry[0] == "colour" and entry[1] not in new]
            if missing:
                refused += 1
                with self.assertRaises(NoColour) as caught:
                    edited_colours(told, palette, recipe)
                self.assertEqual(caught.exception.colour, missing[0])
                continue
            after, changed = edited_colours(told, palette, recipe)
            self.assertEqual(changed, new)
            made = [(new.indexed(recipe(palette.painted(body[0]))),)
                    for body in all_bodies(width, height, moduli) if told.allows(body)]
            wide, high, _ = recipe.after
            self.assertEqual((after.width, after.height, after.moduli), (wide, high, moduli))
            fit = [body for body in all_bodies(wide, high, moduli) if after.allows(body)]
            self.assertEqual(keys(fit), sorted(set(keys(made))))
            self.assertEqual(after.facts(0), list(after.normal_form(0)))
        self.assertGreater(refused, 10)

    def test_64_colours_and_one(self):
        for many in (1, 64):
            palette = Palette([(number,) for number in range(many)], (6,))
            told = Knowledge(8, 8, (many,), [[([(0, 0, 1)], many - 1)]])
            after, colours = edited_colours(told, palette, recipe_of((8, 8, (6,)), ("shift", 0, 5), ("flip",)))
            self.assertEqual(colours.entries[-1], ((many - 1 + 5) % 64,))
            self.assertEqual(after.answer(0, Question.cell(0, 7)), (many - 1, many))
            self.assertEqual(after.count(), many ** 63)

    def test_the_first_missing_colour_in_row_order(self):
        palette = Palette([(0,), (1,)], (3,))
        told = Knowledge(3, 2, (2,), [[]])
        recipe = recipe_of((3, 2, (3,)), ("paint", 0, 1, 1, 1, (6,)), ("paint", 2, 0, 1, 1, (5,)),
                           ("paint", 1, 0, 1, 1, (1,)))
        with self.assertRaises(NoColour) as caught:
            edited_colours(told, palette, recipe)
        self.assertEqual(caught.exception.colour, (5,))
        # A colour that is painted before the shift is shifted with the palette.
        recipe = recipe_of((3, 2, (3,)), ("paint", 0, 0, 1, 1, (1,)), ("shift", 0, 1))
        after, colours = edited_colours(told, palette, recipe)
        self.assertEqual((colours.entries, after.facts(0)), (((1,), (2,)), [(((0, 0, 1),), 1)]))
        # If all is painted, nothing is shifted.
        recipe = recipe_of((3, 2, (3,)), ("shift", 0, 1), ("paint", 0, 0, 3, 2, (1,)))
        after, colours = edited_colours(told, palette, recipe)
        self.assertEqual((colours, after.count(), after.least_sheet(0)), (palette, 1, Sheet.even(2, 3, 2, 1)))

    def test_unlike_before_the_colour(self):
        palette = Palette([(0,), (1,)], (3,))
        told = Knowledge(2, 1, (2,), [[]])
        paint = ("paint", 0, 0, 1, 1, (7,))
        for knowledge, shape in ((told, (1, 2, (3,))), (told, (2, 2, (3,))), (told, (2, 1, (2, 1))),
                                 (told, (2, 1, (4,))), (Knowledge(2, 1, (3,), [[]]), (2, 1, (3,))),
                                 (Knowledge(2, 1, (2, 2), [[], []]), (2, 1, (3,)))):
            colour = (7,) if len(shape[2]) == 1 else (3, 1)
            with self.assertRaises(Unlike):
                edited_colours(knowledge, palette, recipe_of(shape, paint[:5] + (colour,)))
        with self.assertRaises(NoColour):
            edited_colours(told, palette, recipe_of((2, 1, (3,)), paint))
        for error in (Unlike, NoColour):
            self.assertIs(error.__bases__[0], KeepError)


if __name__ == "__main__":
    unittest.main()
