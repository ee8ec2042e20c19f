"""Point 95: surveys."""

import unittest

from keptpictures.files.writer import write_file
from keptpictures.hurts.remains import Remains, salvage
from keptpictures.hurts.survey import CountedSurvey, SummedSurvey, Survey
from tests.chunks_by_hand import chunk_by_hand
from tests.files_by_hand import bytes_of
from tests.helpers import chances
from tests.test_writer import EXAMPLE, some_case

KINDS = ("head", "palette", "data", "spare", "end", "none")


def reported(*report):
    """Return remains with any report."""
    whole = salvage(EXAMPLE)
    return Remains(whole.head, None, (), (), tuple(report))


def line_by_hand(row):
    start, end, kind, state = row
    return str(start).rjust(6) + " " + str(end).rjust(6) + " " + KINDS[kind].ljust(8) + state


class SurveyTest(unittest.TestCase):
    def test_a_line_for_each_row(self):
        remains = reported((0, 12, 0, "kept"), (12, 14, -1, "lost"), (14, 30, 2, "mended"), (30, 34, 4, "idle"),
                           (34, 50, 3, "kept"), (50, 99, 1, "idle"))
        lines = Survey(remains).lines()
        self.assertEqual(lines, ["     0     12 head    kept",
                                 "    12     14 none    lost",
                                 "    14     30 data    mended",
                                 "    30     34 end     idle",
                                 "    34     50 spare   kept",
                                 "    50     99 palette idle"])
        self.assertIs(type(lines), list)

    def test_numbers_too_long_for_their_column(self):
        remains = reported((123456, 654321, 2, "lost"), (1234567, 98765432, 1, "kept"))
        self.assertEqual(Survey(remains).lines(), ["123456 654321 data    lost", "1234567 98765432 palette kept"])

    def test_without_rows(self):
        remains = reported()
        self.assertEqual(Survey(remains).lines(), [])
        self.assertEqual(CountedSurvey(remains).lines(), [])
        self.assertEqual(SummedSurvey(remains).lines(), ["total 0, kept 0, mended 0, idle 0, lost 0"])

    def test_running_numbers(self):
        remains = reported(*[(0, 1, 2, "kept")] * 10001)
        lines = CountedSurvey(remains).lines()
        self.assertEqual(len(lines), 10001)
        for number, front in ((1, "   1: "), (9, "   9: "), (10, "  10: "), (999, " 999: "), (9999, "9999: "),
                              (10001, "10001: ")):
            self.assertEqual(lines[number - 1], front + "     0      1 data    kept")

    def test_the_example_of_the_document(self):
        remains = salvage(EXAMPLE[:-4] + (200, 130) + EXAMPLE[-4:])
        self.assertEqual(SummedSurvey(remains).lines()[-1], "total 5, kept 2, mended 0, idle 1, lost 2")
        remains = reported((0, 1, 0, "kept"), (1, 2, 2, "kept"), (2, 3, 2, "kept"), (3, 4, -1, "lost"),
                           (4, 5, 4, "idle"))
        self.assertEqual(SummedSurvey(remains).lines()[-1], "total 5, kept 3, mended 0, idle 1, lost 1")

    def test_all_of_a_file(self):
        self.assertEqual(SummedSurvey(salvage(EXAMPLE)).lines(),
                         ["   1:      0     12 head    kept",
                          "   2:     12     21 data    kept",
                          "   3:     21     25 end     idle",
                          "total 3, kept 2, mended 0, idle 1, lost 0"])

    def test_all_states(self):
        chance = chances(1)
        for _ in range(40):
            picture, plan = some_case(chance)
            data = list(write_file(picture, plan))
            for _ in range(3):
                data[chance.randrange(len(data))] = chance.randrange(256)
            whole = bytes_of([(0, (2, 1, 1, 0, 1, 0, 0, 0))]) + tuple(data)
            remains = salvage(whole, mend=chance.random() < 0.5)
            lines = [line_by_hand(row) for row in remains.report]
            self.assertEqual(Survey(remains).lines(), lines)
            counted = [str(number + 1).rjust(4) + ": " + line for number, line in enumerate(lines)]
            self.assertEqual(CountedSurvey(remains).lines(), counted)
            states = [row[3] for row in remains.report]
            total = f"total {len(states)}" + "".join(f", {state} {states.count(state)}"
                                                     for state in ("kept", "mended", "idle", "lost"))
            self.assertEqual(SummedSurvey(remains).lines(), counted + [total])

    def test_a_mended_piece(self):
        chunk = list(chunk_by_hand(4, ()))
        chunk[1] = 5
        remains = salvage(EXAMPLE[:-4] + tuple(chunk), mend=True)
        self.assertEqual(Survey(remains).lines()[-1], "    21     25 end     idle")
        hurt = EXAMPLE[:16] + (EXAMPLE[16] ^ 1,) + EXAMPLE[17:]
        self.assertEqual(Survey(salvage(hurt, mend=True)).lines()[1], "    12     21 data    mended")
        self.assertEqual(SummedSurvey(salvage(hurt, mend=True)).lines()[-1],
                         "total 3, kept 1, mended 1, idle 1, lost 0")
        self.assertEqual(Survey(salvage(hurt)).lines()[1], "    12     21 none    lost")

    def test_classes(self):
        self.assertEqual((CountedSurvey.__bases__, SummedSurvey.__bases__), ((Survey,), (CountedSurvey,)))
        remains = salvage(EXAMPLE)
        self.assertIsInstance(SummedSurvey(remains=remains), Survey)

    def test_sharing(self):
        for kind in (Survey, CountedSurvey, SummedSurvey):
            survey = kind(salvage(EXAMPLE))
            before = survey.lines()
            survey.lines().clear()
            self.assertEqual(survey.lines(), before)


if __name__ == "__main__":
    unittest.main()
