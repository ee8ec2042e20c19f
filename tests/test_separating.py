"""Point 85: two files with everything that is left, which answer a question in two ways."""

import unittest

from keptpictures.errors import Clash, NoCell, TooLarge
from keptpictures.files.bodies import body_of
from keptpictures.files.plan import even_plan
from keptpictures.files.whole import chunks_of, read_file, read_plan
from keptpictures.files.writer import write_file
from keptpictures.hurts.fitting import fits, whole_file
from keptpictures.hurts.remains import salvage
from keptpictures.knowledge.facts import known
from keptpictures.knowledge.separating import separating_files
from keptpictures.palettes.palette import Palette
from keptpictures.pictures.picture import Picture
from keptpictures.sheets.question import Question
from tests.files_by_hand import bytes_of
from tests.helpers import are_plain_integers, chances, numbered
from tests.knowledge_by_hand import some_question
from tests.remains_by_hand import whole_by_hand
from tests.torn_files import some_remains, torn_case, torn_in_some_way, without

HEAD, DATA = (0, (2, 1, 1, 0, 1, 0, 0, 0)), (2, (0, 0, 1, 0, 4))


def body_in(data):
    """Return the body of a file, read back."""
    picture, colours = read_file(data), read_plan(data).palette
    return body_of(picture, None if colours is None else Palette(colours, picture.depths))


class SeparatingTest(unittest.TestCase):
    def require_separated(self, remains, z, question):
        """Compare the files, read back, with the answer; return whether there were any."""
        told = known(remains)
        rest, step = told.answer(z, question)
        pair = separating_files(remains, z, question)
        if step == told.moduli[z]:
            self.assertIsNone(pair)
            return False
        self.assertIs(type(pair), tuple)
        self.assertEqual(len(pair), 2)
        self.assertTrue(are_plain_integers(pair))
        for data, value in zip(pair, (rest, rest + step)):
            body = body_in(data)
            self.assertTrue(fits(remains, body))
            self.assertTrue(told.allows(body))
            self.assertEqual(question(body[z]), value)
            self.assertEqual(data, whole_file(remains, body))
            colours = None if remains.palette is None else remains.palette.entries
            chunks = whole_by_hand(remains.head, colours, remains.data, [sheet.rows for sheet in body])
            self.assertEqual(data, bytes_of(chunks))
        return True

    def test_small_files(self):
        chance = chances(1)
        seen = {True: 0, False: 0}
        for _ in range(120):
            remains = some_remains(chance)
            head = remains.head
            z = chance.randrange(len(head.moduli))
            try:
                known(remains)
            except Clash:
                with self.assertRaises(Clash):
                    separating_files(remains, z, Question.cell(0, 0))
                continue
            for _ in range(3):
                question = some_question(chance, head.moduli[z], head.width, head.height)
                seen[self.require_separated(remains, z, question)] += 1
        self.assertGreater(min(seen.values()), 40)

    def test_greater_files(self):
        chance = chances(2)
        seen = {True: 0, False: 0}
        for number in range(30):
            depths = chance.choice(((4,), (2, 3), (7, 1), (1, 1, 2, 1)))
            _, _, chunks, _ = torn_case(chance, 8, 8, depths, coloured=number % 3 == 2 and depths == (4,),
                                        word=chance.choice(("", "a", "dad")), spares=number % 4)
            remains = salvage(torn_in_some_way(chance, chunks))
            z = chance.randrange(len(remains.head.moduli))
            try:
                known(remains)
            except Clash:
                continue
            for _ in range(3):
                question = some_question(chance, remains.head.moduli[z], 8, 8, 10)
                seen[self.require_separated(remains, z, question)] += 1
        self.assertGreater(min(seen.values()), 10)

    def test_a_lost_row(self):
        picture = numbered(4, 4, (4,))
        chunks = list(chunks_of(write_file(picture, even_plan(picture, most=1))))
        remains = salvage(without(chunks, [2]))
        first, second = separating_files(remains, 0, Question.cell(1, 1))
        self.assertEqual((read_file(first)[1, 1], read_file(second)[1, 1]), ((0,), (1,)))
        self.assertEqual(read_file(second).rows[0], picture.rows[0])
        self.assertIsNone(separating_files(remains, 0, Question.cell(1, 0)))
        self.assertIsNone(separating_files(remains=remains, z=0, question=Question([])))

    def test_a_step_between(self):
        # Two spares and two rows that are lost: their difference is 2, so each sample is known but for 8.
        picture = numbered(2, 3, (4,))
        chunks = list(chunks_of(write_file(picture, even_plan(picture, most=1, spares=2))))
        remains = salvage(without(chunks, [1, 3]))
        self.assertEqual(known(remains).answer(0, Question.cell(1, 2)), (5, 8))
        self.assertTrue(self.require_separated(remains, 0, Question.cell(1, 2)))
        self.assertFalse(self.require_separated(remains, 0, 2 * Question.cell(1, 2)))

    def test_all_sheets(self):
        picture = Picture.of((1, 2, 3, 4), [[(1, 2, 3, 4), (0, 1, 2, 3)]])
        remains = salvage(write_file(picture, even_plan(picture))[:15])
        for z in range(4):
            self.assertTrue(self.require_separated(remains, z, Question([(0, 0, 1), (1, 0, 2)])))

    def test_a_lost_palette(self):
        picture = Picture.of((2,), [[(3,), (1,), (3,)]])
        chunks = list(chunks_of(write_file(picture, even_plan(picture, palette=((3,), (1,), (2,))))))
        remains = salvage(without(chunks, [1, 2]))
        first, second = separating_files(remains, 0, Question.cell(2, 0))
        self.assertEqual(read_plan(first).palette, ((0,), (1,), (2,)))
        self.assertEqual((read_file(first)[2, 0], read_file(second)[2, 0]), ((0,), (1,)))

    def test_errors(self):
        clash = salvage(bytes_of([HEAD, DATA, (2, (0, 0, 1, 0, 0))]))
        outside = Question([(2, 0, 2), (0, 1, 1)])
        with self.assertRaises(Clash):
            separating_files(clash, 0, outside)
        with self.assertRaises(TooLarge):
            separating_files(salvage(bytes_of([(0, (9, 8, 1, 0, 1, 0, 0, 0))])), 0, Question.cell(39, 39))
        for chunks in ([HEAD], [HEAD, DATA]):
            with self.assertRaises(NoCell) as caught:
                separating_files(salvage(bytes_of(chunks)), 0, outside)
            self.assertEqual((caught.exception.x, caught.exception.y), (2, 0))


if __name__ == "__main__":
    unittest.main()
