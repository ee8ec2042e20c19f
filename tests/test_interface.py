"""The names of the interface stand in the files and the classes that list them."""

import importlib
import inspect
import unittest

FUNCTIONS = {
    "keptpictures.sheets.question": ("joined", "parting_sheet"),
    "keptpictures.pictures.recipe": ("apply_edits", "recipe_of", "parting_picture"),
    "keptpictures.palettes.orders": ("palette_of", "drawing", "renaming"),
    "keptpictures.passes.tracks": ("is_word", "grid_steps", "pass_of", "tracks", "pass_bounds"),
    "keptpictures.passes.views": ("coarse_view",),
    "keptpictures.filters.folds": ("fold", "unfold"),
    "keptpictures.filters.prediction": ("neighbours", "predicted"),
    "keptpictures.filters.lanes": ("lane_numbers", "sheet_numbers", "sheet_of_numbers"),
    "keptpictures.codes.table": ("width_of",),
    "keptpictures.codes.tokens": ("numbers_of", "write_tokens", "least_tokens", "price"),
    "keptpictures.codes.scanner": ("read_lane", "complete_lane"),
    "keptpictures.codes.lengths": ("least_lengths", "least_table"),
    "keptpictures.codes.packing": ("pack", "unpack"),
    "keptpictures.chunks.sums": ("double", "closing", "write_chunk"),
    "keptpictures.chunks.pieces": ("pieces", "is_sound"),
    "keptpictures.chunks.mending": ("mended",),
    "keptpictures.files.plan": ("even_plan",),
    "keptpictures.files.contents": ("read_data", "read_spare"),
    "keptpictures.files.bodies": ("body_of", "spare_rows"),
    "keptpictures.files.writer": ("write_file",),
    "keptpictures.files.whole": ("read_file", "read_plan", "tidy", "first_wrong", "chunks_of"),
    "keptpictures.files.completion": ("completion",),
    "keptpictures.hurts.remains": ("salvage", "select_rows"),
    "keptpictures.hurts.fitting": ("fits", "whole_file"),
    "keptpictures.knowledge.facts": ("facts_of", "known"),
    "keptpictures.knowledge.peeling": ("peeled",),
    "keptpictures.knowledge.edited": ("edited", "edited_colours"),
    "keptpictures.knowledge.shown": ("sample_values", "restored"),
    "keptpictures.knowledge.separating": ("separating_files",),
    "keptpictures.planning.prices": ("stretch_price", "potentials"),
    "keptpictures.planning.cheapest": ("cheapest",),
    "keptpictures.planning.budget": ("most_lanes",),
    "keptpictures.planning.normal": ("normal_file", "same_picture"),
    "keptpictures.editing.files": ("edit_file", "changed_chunks"),
    "keptpictures.desk.wording": ("write_command", "read_command"),
    "keptpictures.desk.playing": ("play",),
}

METHODS = {
    ("keptpictures.sheets.sheet", "Sheet"): (
        "__init__", "__add__", "__sub__", "__neg__", "__mul__", "__rmul__", "__eq__",
        "__getitem__", "__iter__", "changed", "even"),
    ("keptpictures.sheets.question", "Question"): (
        "__init__", "__add__", "__sub__", "__neg__", "__mul__", "__rmul__", "__eq__", "__call__", "cell"),
    ("keptpictures.pictures.picture", "Picture"): (
        "__init__", "__getitem__", "__iter__", "__eq__", "__or__", "is_clear", "colour_list", "of"),
    ("keptpictures.pictures.recipe", "Recipe"): ("__call__", "__rshift__", "__eq__", "undone"),
    ("keptpictures.palettes.palette", "Palette"): (
        "__init__", "__len__", "__getitem__", "__iter__", "__contains__", "__eq__",
        "index", "indexed", "painted", "merged", "shifted", "LIMIT"),
    ("keptpictures.codes.table", "Table"): (
        "__init__", "__eq__", "literal", "repetition", "serves", "ladder", "preset", "LONGEST"),
    ("keptpictures.codes.scanner", "Scanner"): ("__init__", "feed", "done", "numbers", "used"),
    ("keptpictures.files.head", "Head"): ("__init__", "__eq__", "content", "of"),
    ("keptpictures.files.plan", "Plan"): ("__init__", "__eq__"),
    ("keptpictures.files.reader", "Reader"): (
        "__init__", "feed", "taken", "whole_chunks", "received_lanes", "received_passes", "done", "coarse", "picture"),
    ("keptpictures.hurts.remains", "Remains"): ("__init__",),
    ("keptpictures.hurts.survey", "Survey"): ("__init__", "lines"),
    ("keptpictures.hurts.survey", "CountedSurvey"): ("lines",),
    ("keptpictures.hurts.survey", "SummedSurvey"): ("lines",),
    ("keptpictures.knowledge.knowledge", "Knowledge"): (
        "__init__", "__eq__", "__and__", "__or__", "tells", "facts", "normal_form", "answer", "certificate",
        "step_sheet", "count", "least_sheet", "allows"),
    ("keptpictures.desk.desk", "Desk"): ("__init__", "do", "undo", "set_limit", "item", "names", "steps", "limit"),
}

STATIC = (
    ("keptpictures.sheets.sheet", "Sheet", "even"),
    ("keptpictures.sheets.question", "Question", "cell"),
    ("keptpictures.pictures.picture", "Picture", "of"),
    ("keptpictures.codes.table", "Table", "ladder"),
    ("keptpictures.codes.table", "Table", "preset"),
    ("keptpictures.files.head", "Head", "of"),
)

PROPERTIES = (
    ("keptpictures.codes.scanner", "Scanner", "done"),
    ("keptpictures.codes.scanner", "Scanner", "numbers"),
    ("keptpictures.codes.scanner", "Scanner", "used"),
    ("keptpictures.files.reader", "Reader", "taken"),
    ("keptpictures.files.reader", "Reader", "whole_chunks"),
    ("keptpictures.files.reader", "Reader", "received_lanes"),
    ("keptpictures.files.reader", "Reader", "received_passes"),
    ("keptpictures.files.reader", "Reader", "done"),
    ("keptpictures.desk.desk", "Desk", "names"),
    ("keptpictures.desk.desk", "Desk", "steps"),
    ("keptpictures.desk.desk", "Desk", "limit"),
)

ARGUMENTS = {
    ("keptpictures.sheets.sheet", "Sheet"): "(modulus, rows)",
    ("keptpictures.sheets.sheet", "Sheet.even"): "(modulus, width, height, sample=0)",
    ("keptpictures.sheets.sheet", "Sheet.changed"): "(self, x, y, sample)",
    ("keptpictures.sheets.question", "Question"): "(terms)",
    ("keptpictures.sheets.question", "Question.cell"): "(x, y)",
    ("keptpictures.sheets.question", "Question.__call__"): "(self, sheet)",
    ("keptpictures.sheets.question", "joined"): "(*questions)",
    ("keptpictures.sheets.question", "parting_sheet"): "(one, other, modulus, width, height)",
    ("keptpictures.pictures.picture", "Picture"): "(planes, mask=False)",
    ("keptpictures.pictures.picture", "Picture.of"): "(depths, rows, mask=False)",
    ("keptpictures.pictures.picture", "Picture.is_clear"): "(self, x, y)",
    ("keptpictures.pictures.picture", "Picture.colour_list"): "(self)",
    ("keptpictures.pictures.recipe", "apply_edits"): "(picture, edits)",
    ("keptpictures.pictures.recipe", "recipe_of"): "(shape, *edits)",
    ("keptpictures.pictures.recipe", "parting_picture"): "(one, other)",
    ("keptpictures.pictures.recipe", "Recipe.__call__"): "(self, picture)",
    ("keptpictures.pictures.recipe", "Recipe.undone"): "(self)",
    ("keptpictures.palettes.palette", "Palette"): "(colours, depths)",
    ("keptpictures.palettes.palette", "Palette.index"): "(self, colour)",
    ("keptpictures.palettes.palette", "Palette.indexed"): "(self, picture)",
    ("keptpictures.palettes.palette", "Palette.painted"): "(self, sheet, mask=False)",
    ("keptpictures.palettes.palette", "Palette.merged"): "(self, other)",
    ("keptpictures.palettes.palette", "Palette.shifted"): "(self, plane, amount)",
    ("keptpictures.palettes.orders", "palette_of"): "(picture, order='value')",
    ("keptpictures.palettes.orders", "drawing"): "(picture)",
    ("keptpictures.palettes.orders", "renaming"): "(one, other)",
    ("keptpictures.passes.tracks", "is_word"): "(word)",
    ("keptpictures.passes.tracks", "grid_steps"): "(word, number)",
    ("keptpictures.passes.tracks", "pass_of"): "(x, y, word)",
    ("keptpictures.passes.tracks", "tracks"): "(width, height, word='')",
    ("keptpictures.passes.tracks", "pass_bounds"): "(width, height, word, sheets=1)",
    ("keptpictures.passes.views", "coarse_view"): "(sheet, word, passes)",
    ("keptpictures.filters.folds", "fold"): "(residual, modulus)",
    ("keptpictures.filters.folds", "unfold"): "(number, modulus)",
    ("keptpictures.filters.prediction", "neighbours"): "(number, letter)",
    ("keptpictures.filters.prediction", "predicted"): "(sheet, x, y, number, word)",
    ("keptpictures.filters.lanes", "lane_numbers"): "(sheet, track, number, word)",
    ("keptpictures.filters.lanes", "sheet_numbers"): "(sheet, word, filters)",
    ("keptpictures.filters.lanes", "sheet_of_numbers"): "(modulus, width, height, word, filters, numbers)",
    ("keptpictures.codes.table", "width_of"): "(modulus)",
    ("keptpictures.codes.table", "Table"): "(rungs, repeat=None)",
    ("keptpictures.codes.table", "Table.literal"): "(self, number)",
    ("keptpictures.codes.table", "Table.repetition"): "(self, number)",
    ("keptpictures.codes.table", "Table.serves"): "(self, modulus)",
    ("keptpictures.codes.table", "Table.ladder"): "(first, repeats, modulus)",
    ("keptpictures.codes.table", "Table.preset"): "(number, modulus)",
    ("keptpictures.codes.tokens", "numbers_of"): "(tokens)",
    ("keptpictures.codes.tokens", "write_tokens"): "(tokens, table)",
    ("keptpictures.codes.tokens", "least_tokens"): "(numbers, table)",
    ("keptpictures.codes.tokens", "price"): "(numbers, table)",
    ("keptpictures.codes.scanner", "read_lane"): "(bits, count, modulus, table)",
    ("keptpictures.codes.scanner", "complete_lane"): "(bits, count, modulus, table)",
    ("keptpictures.codes.scanner", "Scanner"): "(count, modulus, table)",
    ("keptpictures.codes.scanner", "Scanner.feed"): "(self, bits)",
    ("keptpictures.codes.lengths", "least_lengths"): "(counts)",
    ("keptpictures.codes.lengths", "least_table"): "(widths, numbers)",
    ("keptpictures.codes.packing", "pack"): "(bits)",
    ("keptpictures.codes.packing", "unpack"): "(content)",
    ("keptpictures.chunks.sums", "double"): "(number)",
    ("keptpictures.chunks.sums", "closing"): "(kind, content)",
    ("keptpictures.chunks.sums", "write_chunk"): "(kind, content)",
    ("keptpictures.chunks.pieces", "pieces"): "(data)",
    ("keptpictures.chunks.pieces", "is_sound"): "(piece)",
    ("keptpictures.chunks.mending", "mended"): "(piece)",
    ("keptpictures.files.head", "Head"): "(width, height, depths, mask=False, *, colours=0, word='', spares=0)",
    ("keptpictures.files.head", "Head.content"): "(self)",
    ("keptpictures.files.head", "Head.of"): "(content)",
    ("keptpictures.files.plan", "Plan"): "(palette=None, *, word='', spares=0, chunks=())",
    ("keptpictures.files.plan", "even_plan"):
        "(picture, *, palette=None, word='', spares=0, code=0, kind=0, most=100)",
    ("keptpictures.files.contents", "read_data"): "(head, content)",
    ("keptpictures.files.contents", "read_spare"): "(head, content)",
    ("keptpictures.files.bodies", "body_of"): "(picture, palette=None)",
    ("keptpictures.files.bodies", "spare_rows"): "(body, word, number, spares)",
    ("keptpictures.files.writer", "write_file"): "(picture, plan)",
    ("keptpictures.files.reader", "Reader"): "()",
    ("keptpictures.files.reader", "Reader.feed"): "(self, *data)",
    ("keptpictures.files.reader", "Reader.coarse"): "(self)",
    ("keptpictures.files.reader", "Reader.picture"): "(self)",
    ("keptpictures.files.whole", "read_file"): "(data)",
    ("keptpictures.files.whole", "read_plan"): "(data)",
    ("keptpictures.files.whole", "tidy"): "(data)",
    ("keptpictures.files.whole", "first_wrong"): "(data)",
    ("keptpictures.files.whole", "chunks_of"): "(data)",
    ("keptpictures.files.completion", "completion"): "(data)",
    ("keptpictures.hurts.remains", "salvage"): "(data, *, head=None, palette=None, mend=False)",
    ("keptpictures.hurts.remains", "select_rows"): "(report, **fields)",
    ("keptpictures.hurts.fitting", "fits"): "(remains, body)",
    ("keptpictures.hurts.fitting", "whole_file"): "(remains, body)",
    ("keptpictures.hurts.survey", "Survey"): "(remains)",
    ("keptpictures.hurts.survey", "CountedSurvey"): "(remains)",
    ("keptpictures.hurts.survey", "SummedSurvey"): "(remains)",
    ("keptpictures.hurts.survey", "SummedSurvey.lines"): "(self)",
    ("keptpictures.knowledge.knowledge", "Knowledge"): "(width, height, moduli, facts)",
    ("keptpictures.knowledge.knowledge", "Knowledge.tells"): "(self, other)",
    ("keptpictures.knowledge.knowledge", "Knowledge.facts"): "(self, z)",
    ("keptpictures.knowledge.knowledge", "Knowledge.normal_form"): "(self, z)",
    ("keptpictures.knowledge.knowledge", "Knowledge.answer"): "(self, z, question)",
    ("keptpictures.knowledge.knowledge", "Knowledge.certificate"): "(self, z, question)",
    ("keptpictures.knowledge.knowledge", "Knowledge.step_sheet"): "(self, z, question)",
    ("keptpictures.knowledge.knowledge", "Knowledge.count"): "(self)",
    ("keptpictures.knowledge.knowledge", "Knowledge.least_sheet"): "(self, z)",
    ("keptpictures.knowledge.knowledge", "Knowledge.allows"): "(self, body)",
    ("keptpictures.knowledge.facts", "facts_of"): "(remains, z)",
    ("keptpictures.knowledge.facts", "known"): "(remains)",
    ("keptpictures.knowledge.peeling", "peeled"): "(knowledge, z)",
    ("keptpictures.knowledge.edited", "edited"): "(knowledge, recipe)",
    ("keptpictures.knowledge.edited", "edited_colours"): "(knowledge, palette, recipe)",
    ("keptpictures.knowledge.shown", "sample_values"): "(remains, x, y, plane)",
    ("keptpictures.knowledge.shown", "restored"): "(remains)",
    ("keptpictures.knowledge.separating", "separating_files"): "(remains, z, question)",
    ("keptpictures.planning.prices", "stretch_price"): "(body, word, first, count, preset, *, careful=False)",
    ("keptpictures.planning.prices", "potentials"): "(body, word='', *, careful=False)",
    ("keptpictures.planning.cheapest", "cheapest"):
        "(picture, *, orders=('none', 'value', 'first', 'often'), words=('',), spares=0, careful=False)",
    ("keptpictures.planning.budget", "most_lanes"): "(picture, budget, *, order='none', word='', spares=0)",
    ("keptpictures.planning.normal", "normal_file"): "(data)",
    ("keptpictures.planning.normal", "same_picture"): "(one, other)",
    ("keptpictures.editing.files", "edit_file"): "(data, edits)",
    ("keptpictures.editing.files", "changed_chunks"): "(one, other)",
    ("keptpictures.desk.wording", "write_command"): "(command)",
    ("keptpictures.desk.wording", "read_command"): "(line)",
    ("keptpictures.desk.desk", "Desk"): "()",
    ("keptpictures.desk.desk", "Desk.do"): "(self, *commands)",
    ("keptpictures.desk.desk", "Desk.undo"): "(self)",
    ("keptpictures.desk.desk", "Desk.set_limit"): "(self, number)",
    ("keptpictures.desk.desk", "Desk.item"): "(self, name)",
    ("keptpictures.desk.playing", "play"): "(desk, text)",
}


def found(module, path):
    """Return what stands under a dotted name in a module."""
    value = importlib.import_module(module)
    for name in path.split("."):
        value = getattr(value, name)
    return value


class InterfaceTest(unittest.TestCase):
    def test_functions_are_defined_in_their_files(self):
        for module, names in FUNCTIONS.items():
            for name in names:
                self.assertEqual(found(module, name).__module__, module, name)

    def test_methods_are_defined_in_their_classes(self):
        for (module, name), methods in METHODS.items():
            self.assertEqual(found(module, name).__module__, module)
            for method in methods:
                self.assertIn(method, vars(found(module, name)), name)

    def test_static_methods(self):
        for module, name, method in STATIC:
            self.assertIsInstance(vars(found(module, name))[method], staticmethod)

    def test_properties(self):
        for module, name, attribute in PROPERTIES:
            self.assertIsInstance(vars(found(module, name))[attribute], property)

    def test_arguments(self):
        for (module, path), arguments in ARGUMENTS.items():
            self.assertEqual(str(inspect.signature(found(module, path))), arguments, path)


if __name__ == "__main__":
    unittest.main()
