"""What the document promises over the whole program: files, remains, knowledge, edits and normal forms together."""

import unittest

from keptpictures.desk.desk import Desk
from keptpictures.editing.files import changed_chunks, edit_file
from keptpictures.errors import Clash, KeepError, NoColour
from keptpictures.files.plan import Plan
from keptpictures.files.reader import Reader
from keptpictures.files.whole import chunks_of, read_file, read_plan, tidy
from keptpictures.files.writer import write_file
from keptpictures.hurts.fitting import fits
from keptpictures.hurts.remains import salvage
from keptpictures.knowledge.edited import edited, edited_colours
from keptpictures.knowledge.facts import known
from keptpictures.knowledge.separating import separating_files
from keptpictures.knowledge.shown import restored, sample_values
from keptpictures.palettes.palette import Palette
from keptpictures.pictures.recipe import apply_edits, recipe_of
from keptpictures.planning.cheapest import cheapest
from keptpictures.planning.normal import normal_file, same_picture
from keptpictures.sheets.question import Question
from tests.edits_by_hand import some_edits
from tests.files_by_hand import some_chunks
from tests.helpers import chances, some_picture
from tests.torn_files import torn_case, torn_in_some_way, without

KEEPING = ("paint", "shift", "mirror", "flip", "turn")


def shape_of(picture):
    return picture.width, picture.height, picture.depths


def some_file(chance, coloured=False):
    """Return a picture of at most 64 cells, its chunks, and its file."""
    depths = tuple(chance.randint(1, 4) for _ in range(chance.randint(1, 3)))
    if coloured:
        depths = (chance.randint(1, 2), 1)
    word = "".join(chance.choice("ad") for _ in range(chance.randint(0, 2)))
    picture, _, chunks, data = torn_case(chance, chance.randint(1, 8), chance.randint(1, 8), depths,
                                         coloured=coloured, word=word, spares=chance.randint(0, 3))
    return picture, chunks, data


class WholeProgramTest(unittest.TestCase):
    def test_what_is_known_of_a_whole_file_is_edited_as_the_file_is(self):
        chance = chances(1)
        for _ in range(60):
            picture, _, data = some_file(chance)
            edits = some_edits(chance, shape_of(picture), chance.randint(1, 3))
            told = known(salvage(edit_file(data, edits)))
            self.assertEqual(told, edited(known(salvage(data)), recipe_of(shape_of(picture), *edits)))
            self.assertEqual(restored(salvage(edit_file(data, edits))), apply_edits(picture, edits))

    def test_what_is_known_of_a_coloured_file_is_edited_as_the_file_is(self):
        chance = chances(2)
        same = 0
        for _ in range(80):
            picture, _, data = some_file(chance, True)
            edits = some_edits(chance, shape_of(picture), chance.randint(1, 3), KEEPING)
            remains, after = salvage(data), salvage(edit_file(data, edits))
            try:
                told, palette = edited_colours(known(remains), remains.palette, recipe_of(shape_of(picture), *edits))
            except NoColour as missing:
                self.assertGreater(len(after.palette), len(remains.palette))
                self.assertIn(missing.colour, after.palette)
                continue
            if len(after.palette) == len(remains.palette):
                same += 1
                self.assertEqual((told, palette), (known(after), after.palette))
        self.assertGreater(same, 30)

    def test_what_is_known_of_torn_files_is_edited_as_the_pictures_are(self):
        chance = chances(3)
        for _ in range(60):
            picture, chunks, _ = some_file(chance)
            remains = salvage(torn_in_some_way(chance, chunks))
            try:
                told = known(remains)
            except Clash:
                continue
            edits = some_edits(chance, shape_of(picture), chance.randint(1, 3))
            recipe = recipe_of(shape_of(picture), *edits)
            after = edited(told, recipe)
            self.assertTrue(after.tells(after | after))
            question = Question.cell(chance.randrange(picture.width), chance.randrange(picture.height))
            pair = separating_files(remains, 0, question)
            for data in pair or ():
                self.assertTrue(fits(remains, read_file(data).planes))
                self.assertTrue(after.allows(apply_edits(read_file(data), edits).planes))
                self.assertTrue(after.allows(read_file(edit_file(data, edits)).planes))

    def test_more_that_is_left_tells_more(self):
        chance = chances(4)
        for _ in range(30):
            picture, chunks, data = some_file(chance)
            order = list(range(1, len(chunks)))
            chance.shuffle(order)
            before = known(salvage(data))
            self.assertTrue(before.allows(picture.planes))
            lost = []
            for k in order:
                lost.append(k)
                told = known(salvage(without(chunks, lost)))
                self.assertTrue(before.tells(told))
                self.assertEqual(before & told, before)
                self.assertEqual(before | told, told)
                before = told
            self.assertEqual(before.count(), self.bodies_of(picture))

    def bodies_of(self, picture):
        number = 1
        for depth in picture.depths:
            number *= 2 ** (depth * picture.width * picture.height)
        return number

    def test_what_is_lost_of_a_careful_file_is_known(self):
        chance = chances(5)
        for order in ("none", "often"):
            picture = some_picture(chance, 6, 6, (3, 2))
            plan = cheapest(picture, orders=(order,), words=("d",), spares=1, careful=True)
            data = write_file(picture, plan)
            chunks = list(chunks_of(data))
            for k, (kind, _) in enumerate(chunks):
                if kind in (2, 3):
                    self.assertEqual(restored(salvage(without(chunks, [k]))), picture)

    def test_one_wrong_byte_is_mended(self):
        chance = chances(6)
        for _ in range(10):
            picture, _, data = some_file(chance, chance.random() < 0.5)
            for _ in range(10):
                at = chance.randrange(len(data))
                hurt = list(data)
                hurt[at] = chance.choice([byte for byte in range(256) if byte // 128 == data[at] // 128])
                self.assertEqual(restored(salvage(tuple(hurt), mend=True)), picture)

    def test_files_of_one_picture_have_one_normal_form(self):
        chance = chances(7)
        for _ in range(20):
            picture, _, data = some_file(chance)
            edits = some_edits(chance, shape_of(picture), 2)
            after = apply_edits(picture, edits)
            colours = after.colour_list()
            chance.shuffle(colours)
            files = [edit_file(data, edits), edit_file(normal_file(data), edits), edit_file(tidy(data), edits)]
            if len(colours) <= 64:
                chunks = some_chunks(chance, after, tuple(colours), "ad")
                files.append(write_file(after, Plan(colours, word="ad", spares=2, chunks=chunks)))
            self.assertEqual({normal_file(one) for one in files}, {normal_file(write_file(after, cheapest(after)))})
            self.assertTrue(all(same_picture(one, other) for one in files for other in files))

    def test_undone_edits(self):
        chance = chances(8)
        for _ in range(30):
            picture, _, data = some_file(chance)
            edits = some_edits(chance, shape_of(picture), 1, ("shift", "mirror", "flip"))
            word, *rest = edits[0]
            back = [(word, rest[0], -rest[1])] if word == "shift" else edits
            again = edit_file(edit_file(data, edits), back)
            self.assertEqual((read_file(again), read_plan(again)), (picture, read_plan(data)))
            changed = changed_chunks(data, edit_file(data, edits))
            self.assertTrue(set(changed_chunks(data, again)) <= set(changed))

    def test_a_beginning_shows_what_a_reader_shows(self):
        chance = chances(9)
        for number in range(12):
            picture, chunks, data = some_file(chance, number % 2 == 1)
            reader = Reader()
            for at, byte in enumerate(data):
                reader.feed(byte)
                if reader.whole_chunks and byte == 132:
                    self.assertEqual(restored(salvage(data[:at])), picture)
            self.assertEqual(reader.picture(), picture)

    def test_on_the_desk(self):
        desk = Desk()
        desk.do(("new", "p", 4, 4, (4,), False))
        desk.do(*[("edit", "p", ("paint", k % 4, k // 4, 1, 1, (k,))) for k in range(16)])
        desk.do(("save", "f", "p", "none", "", 1), ("know", "k", "f"), ("edit", "k", ("turn",)),
                ("edit", "f", ("turn",)), ("know", "l", "f"))
        self.assertEqual(desk.item("k"), desk.item("l"))
        self.assertEqual(desk.item("k").least_sheet(0), apply_edits(desk.item("p"), [("turn",)]).planes[0])
        remains = salvage(desk.item("f"))
        self.assertEqual([sample_values(remains, x, 0, 0) for x in range(4)], [[0], [4], [8], [12]])

    def test_all_errors_are_below_one(self):
        picture = some_picture(chances(10), 2, 2, (1,))
        data = write_file(picture, cheapest(picture))
        for call in (lambda: read_file(data[:-1]), lambda: edit_file(data, [("cut", 0, 0, 9, 9)]),
                     lambda: known(salvage(())), lambda: Desk().undo(), lambda: Palette([], (1,))):
            with self.assertRaises(KeepError) as caught:
                call()
            self.assertIs(type(caught.exception).__bases__[0], KeepError)
            self.assertIsInstance(caught.exception, ValueError)


if __name__ == "__main__":
    unittest.main()
