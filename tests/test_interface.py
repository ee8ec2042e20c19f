"""The names of the interface stand in the files and the classes that list them."""

import importlib
import inspect
import unittest

FUNCTIONS = {
    "keptpictures.sheets.question": ("joined", "parting_sheet"),
    "keptpictures.pictures.recipe": ("apply_edits", "recipe_of", "parting_picture"),
    "keptpictures.palettes.orders": ("palette_of", "drawing", "renaming"),
}

METHODS = {
    ("keptpictures.sheets.sheet", "Sheet"): (
        "__init__", "__add__", "__sub__", "__neg__", "__mul__", "__rmul__", "__eq__",
        "__getitem__", "__iter__", "changed", "even"),
    ("keptpictures.sheets.question", "Question"): (
        "__init__", "__add__", "__sub__", "__neg__", "__mul__", "__rmul__", "__eq__", "__call__", "cell"),
    ("keptpictures.pictures.picture", "Picture"): (
        "__init__", "__getitem__", "__iter__", "__eq__", "__or__", "is_clear", "colour_list", "of"),
    ("keptpictures.pictures.recipe", "Recipe"): ("__call__", "__rshift__", "__eq__", "undone"),
    ("keptpictures.palettes.palette", "Palette"): (
        "__init__", "__len__", "__getitem__", "__iter__", "__contains__", "__eq__",
        "index", "indexed", "painted", "merged", "shifted", "LIMIT"),
}

STATIC = (
    ("keptpictures.sheets.sheet", "Sheet", "even"),
    ("keptpictures.sheets.question", "Question", "cell"),
    ("keptpictures.pictures.picture", "Picture", "of"),
)

ARGUMENTS = {
    ("keptpictures.sheets.sheet", "Sheet"): "(modulus, rows)",
    ("keptpictures.sheets.sheet", "Sheet.even"): "(modulus, width, height, sample=0)",
    ("keptpictures.sheets.sheet", "Sheet.changed"): "(self, x, y, sample)",
    ("keptpictures.sheets.question", "Question"): "(terms)",
    ("keptpictures.sheets.question", "Question.cell"): "(x, y)",
    ("keptpictures.sheets.question", "Question.__call__"): "(self, sheet)",
    ("keptpictures.sheets.question", "joined"): "(*questions)",
    ("keptpictures.sheets.question", "parting_sheet"): "(one, other, modulus, width, height)",
    ("keptpictures.pictures.picture", "Picture"): "(planes, mask=False)",
    ("keptpictures.pictures.picture", "Picture.of"): "(depths, rows, mask=False)",
    ("keptpictures.pictures.picture", "Picture.is_clear"): "(self, x, y)",
    ("keptpictures.pictures.picture", "Picture.colour_list"): "(self)",
    ("keptpictures.pictures.recipe", "apply_edits"): "(picture, edits)",
    ("keptpictures.pictures.recipe", "recipe_of"): "(shape, *edits)",
    ("keptpictures.pictures.recipe", "parting_picture"): "(one, other)",
    ("keptpictures.pictures.recipe", "Recipe.__call__"): "(self, picture)",
    ("keptpictures.pictures.recipe", "Recipe.undone"): "(self)",
    ("keptpictures.palettes.palette", "Palette"): "(colours, depths)",
    ("keptpictures.palettes.palette", "Palette.index"): "(self, colour)",
    ("keptpictures.palettes.palette", "Palette.indexed"): "(self, picture)",
    ("keptpictures.palettes.palette", "Palette.painted"): "(self, sheet, mask=False)",
    ("keptpictures.palettes.palette", "Palette.merged"): "(self, other)",
    ("keptpictures.palettes.palette", "Palette.shifted"): "(self, plane, amount)",
    ("keptpictures.palettes.orders", "palette_of"): "(picture, order='value')",
    ("keptpictures.palettes.orders", "drawing"): "(picture)",
    ("keptpictures.palettes.orders", "renaming"): "(one, other)",
}


def found(module, path):
    """Return what stands under a dotted name in a module."""
    value = importlib.import_module(module)
    for name in path.split("."):
        value = getattr(value, name)
    return value


class InterfaceTest(unittest.TestCase):
    def test_functions_are_defined_in_their_files(self):
        for module, names in FUNCTIONS.items():
            for name in names:
                self.assertEqual(found(module, name).__module__, module, name)

    def test_methods_are_defined_in_their_classes(self):
        for (module, name), methods in METHODS.items():
            self.assertEqual(found(module, name).__module__, module)
            for method in methods:
                self.assertIn(method, vars(found(module, name)), name)

    def test_static_methods(self):
        for module, name, method in STATIC:
            self.assertIsInstance(vars(found(module, name))[method], staticmethod)

    def test_arguments(self):
        for (module, path), arguments in ARGUMENTS.items():
            self.assertEqual(str(inspect.signature(found(module, path))), arguments, path)


if __name__ == "__main__":
    unittest.main()
