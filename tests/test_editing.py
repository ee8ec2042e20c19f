"""Points 93 and 94: edited files, and which of their chunks are others."""

import copy
import unittest

from keptpictures.editing.files import changed_chunks, edit_file
from keptpictures.errors import BadEdit, BadFile, KeepError, TooMany
from keptpictures.files.head import Head
from keptpictures.files.plan import Plan, even_plan
from keptpictures.files.whole import chunks_of, read_file, read_plan, tidy
from keptpictures.files.writer import write_file
from keptpictures.palettes.palette import Palette
from keptpictures.pictures.picture import Picture
from keptpictures.pictures.recipe import apply_edits, recipe_of
from tests.edits_by_hand import by_hand, some_edits
from tests.files_by_hand import (all_numbers, body_by_hand, bytes_of, data_by_hand, file_by_hand, head_by_hand,
                                 palette_by_hand, spare_by_hand, spares_by_hand)
from tests.helpers import are_plain_integers, chances, numbered, some_picture
from tests.remains_by_hand import data_of_content
from tests.test_writer import EXAMPLE, some_case

KEEPING = ("paint", "shift", "mirror", "flip")


def palette_by_edits(colours, recipe, after):
    """Return the colours of the edited file."""
    if colours is None:
        return None
    found = []
    for colour in colours:
        found.append(tuple((sample + shift) % 2 ** depth
                           for sample, shift, depth in zip(colour, recipe.shifts, recipe.before[2])))
    for row in after.rows:
        for colour in row:
            if colour not in found:
                found.append(colour)
    return tuple(found)


def edited_by_hand(data, edits):
    """Return the edited file, chunk by chunk, or the number of colours if there are too many."""
    picture, plan = read_file(data), read_plan(data)
    after = by_hand(picture, edits)
    recipe = recipe_of((picture.width, picture.height, picture.depths), *edits)
    colours = palette_by_edits(plan.palette, recipe, after)
    if colours is not None and len(colours) > 64:
        return len(colours)
    stays = colours is None or len(colours) == len(plan.palette)
    if (after.width, after.height) != (picture.width, picture.height) or not stays:
        return write_file(after, even_plan(after, palette=colours, word=plan.word, spares=plan.spares))
    head = Head.of(list(chunks_of(data))[0][1])
    body, moduli = body_by_hand(after, colours)
    filters = [kind for _, _, kinds in plan.chunks for kind in kinds]
    numbers = all_numbers(body, moduli, plan.word, filters)
    chunks = []
    for kind, content in chunks_of(data):
        if kind == 0:
            content = head_by_hand(after, colours, plan.word, plan.spares)
        elif kind == 1:
            content = palette_by_hand(colours, after.depths)
        elif kind == 2:
            first, code, kinds, rows = data_of_content(head, content)
            own = tuple(numbers[first:first + len(kinds)])
            if rows != own:
                content = data_by_hand(first, code, kinds, own, moduli)
        elif kind == 3:
            rows = spares_by_hand(body, moduli, plan.word, content[0], plan.spares)
            content = spare_by_hand(content[0], rows, moduli)
        chunks.append((kind, content))
    return bytes_of(chunks)


class EditFileTest(unittest.TestCase):
    def test_by_hand(self):
        # The samples 0 and 1 become 1 and 1: the filter is kept, and the bits are 000 1 1.
        told = edit_file(EXAMPLE, [("paint", 0, 0, 1, 1, (1,))])
        self.assertEqual(told, bytes_of([(0, (2, 1, 1, 0, 1, 0, 0, 0)), (2, (0, 0, 1, 0, 0b0001100)), (4, ())]))
        self.assertIs(type(told), tuple)
        self.assertEqual(edit_file(data=EXAMPLE, edits=()), EXAMPLE)
        told = edit_file(EXAMPLE, (("turn",),))
        self.assertEqual(told, write_file(Picture.of((1,), [[(0,)], [(1,)]]),
                                          even_plan(Picture.of((1,), [[(0,)], [(1,)]]))))

    def test_as_the_document_says(self):
        chance = chances(1)
        kept = 0
        for _ in range(250):
            picture, plan = some_case(chance)
            data = bytes_of(file_by_hand(picture, plan, chance))
            words = chance.choice((KEEPING, ("paint",), KEEPING + ("turn", "cut")))
            edits = some_edits(chance, (picture.width, picture.height, picture.depths), chance.randint(0, 3), words)
            wanted = edited_by_hand(data, edits)
            if isinstance(wanted, int):
                with self.assertRaises(TooMany) as caught:
                    edit_file(data, edits)
                self.assertEqual(caught.exception.number, wanted)
                continue
            told = edit_file(data, edits)
            self.assertEqual(told, wanted)
            self.assertEqual(read_file(told), apply_edits(picture, edits))
            self.assertEqual((read_plan(told).word, read_plan(told).spares), (plan.word, plan.spares))
            self.assertIs(read_plan(told).palette is None, plan.palette is None)
            kept += read_plan(told).chunks == plan.chunks and told != data
            self.assertTrue(are_plain_integers(told))
        self.assertGreater(kept, 60)

    def test_tokens_that_are_not_the_least_ones(self):
        # The second row has its zeros one by one; it is kept as it is while the first row changes.
        table = (((1, 0), (2, 0)), (2, 3))
        picture = Picture.of((1,), [[(0,)] * 6, [(0,)] * 6])
        head = (0, (6, 2, 1, 0, 1, 0, 0, 0))
        front = [64, 2, 1, 1, 0, 2, 0, 2, 3]
        slow = (2, (0, 1, 1, *front, 0, 0))
        quick = (2, (0, 0, 1, *front, 0b0001110, 0b1000000))
        data = bytes_of([head, quick, slow, (4, ())])
        self.assertEqual(read_file(data), picture)
        self.assertEqual(read_plan(data).chunks, ((1, table, (0,)), (1, table, (0,))))
        self.assertNotEqual(tidy(data), data)
        told = edit_file(data, [("paint", 0, 0, 1, 1, (1,))])
        chunks = list(chunks_of(told))
        self.assertEqual(chunks[2], slow)
        self.assertEqual(changed_chunks(data, told), [1])
        # What changes is written with the least tokens, here also back to what it was.
        back = edit_file(edit_file(data, [("paint", 5, 1, 1, 1, (1,))]), [("paint", 5, 1, 1, 1, (0,))])
        self.assertEqual(back, tidy(data))
        self.assertEqual(edit_file(data, []), data)
        self.assertEqual(edit_file(data, [("paint", 0, 0, 6, 2, (0,)), ("mirror",), ("flip",)]), data)

    def test_a_shift_of_a_coloured_file_leaves_the_data(self):
        picture = some_picture(chances(2), 5, 5, (2, 1))
        palette = tuple(picture.colour_list())
        data = write_file(picture, even_plan(picture, palette=palette, word="a", spares=2, most=2, code=2, kind=1))
        told = edit_file(data, [("shift", 0, 3), ("shift", 1, -1)])
        self.assertEqual(changed_chunks(data, told), [1])
        self.assertEqual(read_plan(told).palette, tuple(((a + 3) % 4, (b + 1) % 2) for a, b in palette))

    def test_a_shift_of_a_plain_file(self):
        # With the filter "left" a shift changes only the first number of each lane, and nothing in the other plane.
        picture = numbered(4, 3, (4, 4))
        data = write_file(picture, even_plan(picture, most=1, kind=1))
        told = edit_file(data, [("shift", 0, 1)])
        self.assertEqual(changed_chunks(data, told), [1, 3, 5])

    def test_new_colours_stand_behind(self):
        picture = Picture.of((4,), [[(1,), (2,), (3,)], [(3,), (2,), (1,)]])
        data = write_file(picture, even_plan(picture, palette=((3,), (1,), (2,), (7,)), word="d", spares=1))
        told = edit_file(data, [("paint", 2, 0, 1, 1, (9,)), ("paint", 0, 1, 1, 1, (8,)), ("paint", 0, 0, 1, 1, (9,))])
        self.assertEqual(read_plan(told).palette, ((3,), (1,), (2,), (7,), (9,), (8,)))
        self.assertEqual(told, write_file(read_file(told), even_plan(read_file(told), palette=read_plan(told).palette,
                                                                     word="d", spares=1)))
        # A colour that is in the palette already makes no new entry, so the plan stays.
        told = edit_file(data, [("paint", 0, 0, 1, 1, (7,))])
        self.assertEqual(read_plan(told), read_plan(data))
        # Colours that are gone stay in the palette.
        told = edit_file(data, [("cut", 0, 0, 1, 1)])
        self.assertEqual(read_plan(told).palette, ((3,), (1,), (2,), (7,)))
        # Painted colours are not shifted if nothing else is left.
        told = edit_file(data, [("shift", 0, 1), ("paint", 0, 0, 3, 2, (5,))])
        self.assertEqual(read_plan(told).palette, ((3,), (1,), (2,), (7,), (5,)))
        told = edit_file(data, [("paint", 0, 0, 1, 1, (5,)), ("shift", 0, 1)])
        self.assertEqual(read_plan(told).palette, ((4,), (2,), (3,), (8,), (6,)))

    def test_palettes_of_64_colours(self):
        picture = numbered(9, 7, (7,))
        data = write_file(picture, even_plan(picture, palette=tuple(picture.colour_list())))
        told = edit_file(data, [("paint", 0, 0, 1, 1, (100,))])
        self.assertEqual(len(read_plan(told).palette), 64)
        self.assertEqual(len(read_plan(edit_file(told, [("paint", 0, 0, 1, 1, (5,))])).palette), 64)
        for edits, number in (([("paint", 0, 0, 1, 1, (101,))], 65),
                              ([("paint", 0, 0, 1, 1, (101,)), ("paint", 1, 0, 1, 1, (102,))], 66)):
            with self.assertRaises(TooMany) as caught:
                edit_file(told, edits)
            self.assertEqual(caught.exception.number, number)

    def test_edits_that_change_the_size(self):
        picture = some_picture(chances(3), 5, 3, (3,))
        data = write_file(picture, even_plan(picture, word="ad", spares=2, most=1, code=5, kind=4))
        for edit in (("turn",), ("cut", 1, 1, 3, 2), ("cut", 0, 0, 5, 2), ("cut", 0, 0, 4, 3)):
            after = by_hand(picture, [edit])
            self.assertEqual(edit_file(data, [edit]), write_file(after, even_plan(after, word="ad", spares=2)))
        # The size stays in the end.
        self.assertEqual(read_plan(edit_file(data, [("turn",), ("turn",)])), read_plan(data))
        self.assertEqual(edit_file(data, [("cut", 0, 0, 5, 3)]), data)
        square = some_picture(chances(4), 4, 4, (3,))
        told = write_file(square, even_plan(square, most=1, code=5, kind=4))
        self.assertEqual(read_plan(edit_file(told, [("turn",)])), read_plan(told))

    def test_masks_stay(self):
        picture = some_picture(chances(5), 4, 4, (3, 1), True)
        data = write_file(picture, even_plan(picture, kind=2))
        told = edit_file(data, [("shift", 1, 1), ("cut", 0, 0, 3, 3)])
        self.assertEqual(read_file(told), by_hand(picture, [("shift", 1, 1), ("cut", 0, 0, 3, 3)]))
        self.assertIs(read_file(told).mask, True)

    def test_one_edit_after_the_other(self):
        chance = chances(6)
        for _ in range(40):
            picture, plan = some_case(chance)
            data = write_file(picture, plan)
            edits = some_edits(chance, (picture.width, picture.height, picture.depths), 2, KEEPING)
            try:
                told = edit_file(edit_file(data, edits[:1]), edits[1:])
            except TooMany:
                continue
            self.assertEqual(read_file(told), read_file(edit_file(data, edits)) if plan.palette is None
                             else apply_edits(picture, edits))

    def test_the_errors_in_their_order(self):
        wrong = [("mirror",), ("cut", 0, 0, 3, 1)]
        for data, at in (((), 0), (EXAMPLE[:-1], 24), (EXAMPLE + (0,), 25), ((128, 2, 0), 2)):
            with self.assertRaises(BadFile) as caught:
                edit_file(data, wrong)
            self.assertEqual(caught.exception.at, at)
        with self.assertRaises(BadEdit) as caught:
            edit_file(EXAMPLE, wrong)
        self.assertEqual(caught.exception.place, 1)
        many = numbered(8, 8, (7,))
        data = write_file(many, even_plan(many, palette=tuple(many.colour_list())))
        paint = ("paint", 0, 0, 1, 1, (127,))
        with self.assertRaises(BadEdit) as caught:
            edit_file(data, [paint, ("shift", 1, 1)])
        self.assertEqual(caught.exception.place, 1)
        with self.assertRaises(TooMany) as caught:
            edit_file(data, [paint])
        self.assertEqual(caught.exception.number, 65)
        for error in (BadFile, BadEdit, TooMany):
            self.assertIs(error.__bases__[0], KeepError)

    def test_arguments_stay_as_they_are(self):
        edits = [("paint", 0, 0, 1, 1, (1,)), ("flip",)]
        before = copy.deepcopy(edits)
        edit_file(EXAMPLE, edits)
        self.assertEqual(edits, before)


class ChangedChunksTest(unittest.TestCase):
    def test_by_hand(self):
        head, data, other, end = (0, (2, 1, 1, 0, 1, 0, 0, 0)), (2, (0, 0, 1, 0, 4)), (2, (0, 0, 1, 0, 8)), (4, ())
        self.assertEqual(changed_chunks(EXAMPLE, EXAMPLE), [])
        self.assertEqual(changed_chunks(EXAMPLE, bytes_of([head, other, end])), [1])
        longer = write_file(numbered(2, 2, (2,)), even_plan(numbered(2, 2, (2,)), most=1))
        self.assertEqual(changed_chunks(EXAMPLE, longer), [0, 1, 2, 3])
        self.assertEqual(changed_chunks(one=longer, other=EXAMPLE), [0, 1, 2, 3])
        self.assertEqual(bytes_of([head, data, end]), EXAMPLE)
        self.assertIs(type(changed_chunks(EXAMPLE, longer)), list)

    def test_any_two_files(self):
        chance = chances(7)
        files = [write_file(*some_case(chance, 3)) for _ in range(30)]
        for _ in range(200):
            one, other = chance.choice(files), chance.choice(files)
            chunks, others = list(chunks_of(one)), list(chunks_of(other))
            wanted = [k for k in range(max(len(chunks), len(others))) if chunks[k:k + 1] != others[k:k + 1]]
            self.assertEqual(changed_chunks(one, other), wanted)

    def test_data_chunks_of_edited_files(self):
        chance = chances(8)
        for _ in range(80):
            picture, plan = some_case(chance)
            data = bytes_of(file_by_hand(picture, plan, chance))
            edits = some_edits(chance, (picture.width, picture.height, picture.depths), 1, KEEPING)
            try:
                told = edit_file(data, edits)
            except TooMany:
                continue
            if read_plan(told).palette is not None and len(read_plan(told).palette) != len(plan.palette):
                continue
            head = Head.of(list(chunks_of(data))[0][1])
            rows = [[data_of_content(head, content)[3] for kind, content in chunks_of(one) if kind == 2]
                    for one in (data, told)]
            places = [k for k, (kind, _) in enumerate(chunks_of(data)) if kind == 2]
            changed = changed_chunks(data, told)
            self.assertEqual([k for k in changed if k in places],
                             [k for k, old, new in zip(places, *rows) if old != new])
            if plan.palette is not None:
                self.assertEqual(1 in changed, Palette(plan.palette, picture.depths).entries != read_plan(told).palette)

    def test_lists_are_not_kept(self):
        changed_chunks(EXAMPLE, EXAMPLE).append(1)
        self.assertEqual(changed_chunks(EXAMPLE, EXAMPLE), [])


if __name__ == "__main__":
    unittest.main()
