"""The examples at the end of the document, as they stand there."""

import unittest

from keptpictures.chunks.sums import closing
from keptpictures.codes.scanner import complete_lane, read_lane
from keptpictures.codes.table import Table
from keptpictures.codes.tokens import least_tokens
from keptpictures.desk.desk import Desk
from keptpictures.desk.playing import play
from keptpictures.errors import BadBits, Clash
from keptpictures.files.completion import completion
from keptpictures.files.plan import even_plan
from keptpictures.files.whole import first_wrong
from keptpictures.files.writer import write_file
from keptpictures.hurts.remains import salvage
from keptpictures.knowledge.facts import known
from keptpictures.knowledge.knowledge import Knowledge
from keptpictures.passes.tracks import tracks
from keptpictures.pictures.picture import Picture
from keptpictures.sheets.question import Question


class ExamplesTest(unittest.TestCase):
    def test_passes_and_codes(self):
        self.assertEqual(list(tracks(3, 2, "a")), [(0, 0, 0, 2, 2), (0, 1, 0, 2, 2), (1, 0, 1, 2, 1), (1, 1, 1, 2, 1)])
        self.assertEqual(Table([(1, 0), (2, 1)], (2, 3)).words, ("0", "10", "11"))
        table = Table.preset(1, 4)
        self.assertEqual((table.rungs, table.repeat), (((1, 0), (3, 1), (3, 0)), (2, 3)))
        self.assertEqual(least_tokens((0, 0, 0, 0, 0, 0, 0, 3), table), (("again", 7), ("one", 3)))
        with self.assertRaises(BadBits) as caught:
            read_lane("11", 1, 5, Table([(0, 3)]))
        self.assertEqual(caught.exception.at, 1)
        self.assertEqual(complete_lane("1", 1, 5, Table([(0, 3)])), "100")

    def test_chunks_and_files(self):
        self.assertEqual(closing(0, (2, 1, 1, 0, 1, 0, 0, 0)), (8, 11, 87))
        picture = Picture.of((1,), [[(0,), (1,)]])
        self.assertEqual(write_file(picture, even_plan(picture)),
                         (128, 2, 1, 1, 0, 1, 0, 0, 0, 8, 11, 87, 130, 0, 0, 1, 0, 4, 5, 2, 6, 132, 0, 4, 8))
        self.assertEqual(completion(()),
                         (128, 1, 1, 1, 0, 1, 0, 0, 0, 8, 8, 93, 130, 0, 0, 1, 0, 0, 5, 6, 14, 132, 0, 4, 8))
        self.assertEqual(first_wrong((128, 2, 0)), 2)

    def test_knowledge(self):
        remains = salvage((128, 2, 1, 1, 0, 1, 0, 0, 0, 8, 11, 87, 132, 0, 4, 8))
        self.assertEqual((remains.report, known(remains).count()), (((0, 12, 0, "kept"), (12, 16, 4, "idle")), 4))
        told = Knowledge(2, 1, (4,), [[(((0, 0, 2),), 2)]])
        self.assertEqual((told.answer(0, Question.cell(0, 0)), told.answer(0, Question.cell(1, 0)), told.count()),
                         ((1, 2), (0, 1), 8))
        with self.assertRaises(Clash) as caught:
            Knowledge(1, 1, (4,), [[(((0, 0, 2),), 1)]])
        self.assertEqual(caught.exception.sheet, 0)

    def test_the_desk(self):
        told = play(Desk(), "new a 2 1 1 open\nedit a paint 0 0 1 1 1\nshow a\nload b a")
        self.assertEqual(told, [("done", None), ("done", None), ("done", ("1 0",)), ("refused",)])


if __name__ == "__main__":
    unittest.main()
