"""Point 91: what is lost of a careful file is known from what is left."""

import unittest
from itertools import combinations, product
from math import gcd

from keptpictures.files.bodies import body_of
from keptpictures.files.plan import Plan
from keptpictures.files.whole import chunks_of, read_plan
from keptpictures.files.writer import write_file
from keptpictures.hurts.remains import salvage
from keptpictures.knowledge.facts import known
from keptpictures.knowledge.shown import restored, sample_values
from keptpictures.palettes.palette import Palette
from keptpictures.passes.tracks import tracks
from keptpictures.planning.cheapest import cheapest
from keptpictures.sheets.question import Question
from tests.helpers import chances, some_picture
from tests.planning_by_hand import presets_of
from tests.torn_files import without


def careful_plan(chance, picture, palette, word, spares):
    """Return any plan of a careful family."""
    body = body_of(picture, palette)
    colours = None if palette is None else palette.entries
    chunks = [(len(body), chance.choice(presets_of(body)), [chance.choice((0, 1, 6)) for _ in body])
              for _ in tracks(picture.width, picture.height, word)]
    return Plan(colours, word=word, spares=spares, chunks=chunks)


def pass_of_chunk(chunks, k, plan, picture, sheets):
    """Return the number of the pass of a data or spare chunk."""
    kind, content = chunks[k]
    if kind == 3:
        return content[0]
    listed = list(tracks(picture.width, picture.height, plan.word))
    return listed[(128 * content[0] + content[1]) // sheets][0]


class CarefulTest(unittest.TestCase):
    def cases(self, seed, times):
        chance = chances(seed)
        for number in range(times):
            depths = tuple(chance.randint(1, 6) for _ in range(chance.randint(1, 3)))
            width, height = chance.choice(((8, 8), (5, 7), (3, 20), (1, 12), (12, 1), (4, 4)))
            picture = some_picture(chance, width, height, depths)
            palette = None
            if number % 3 == 2:
                colours = picture.colour_list()
                chance.shuffle(colours)
                palette = Palette(colours, depths)
            word, spares = chance.choice(("", "a", "d", "ad", "dda")), chance.randint(1, 3)
            plan = careful_plan(chance, picture, palette, word, spares)
            if number % 4 == 0:
                orders = ("none",) if palette is None else ("often",)
                plan = cheapest(picture, orders=orders, words=(word,), spares=spares, careful=True)
            yield chance, picture, plan

    def test_one_chunk_of_each_pass_is_lost(self):
        for chance, picture, plan in self.cases(1, 60):
            data = write_file(picture, plan)
            self.assertEqual(read_plan(data), plan)
            chunks = list(chunks_of(data))
            sheets = 1 if plan.palette is not None else len(picture.depths)
            by_pass = {}
            for k, (kind, _) in enumerate(chunks):
                if kind in (2, 3):
                    by_pass.setdefault(pass_of_chunk(chunks, k, plan, picture, sheets), []).append(k)
            for _ in range(4):
                lost = [chance.choice(own) for own in by_pass.values() if chance.random() < 0.8]
                remains = salvage(without(chunks, lost))
                told = known(remains)
                self.assertEqual(told.count(), 1)
                self.assertEqual(restored(remains), picture)
                palette = None if plan.palette is None else Palette(plan.palette, picture.depths)
                self.assertTrue(told.allows(body_of(picture, palette)))

    def test_every_single_chunk(self):
        chance = chances(2)
        picture = some_picture(chance, 4, 5, (3, 2))
        for word in ("", "ad"):
            data = write_file(picture, careful_plan(chance, picture, None, word, 1))
            chunks = list(chunks_of(data))
            for k in range(1, len(chunks)):
                self.assertEqual(restored(salvage(without(chunks, [k]))), picture)

    def test_two_tracks_are_lost(self):
        chance = chances(3)
        steps = set()
        for depths, height in (((3,), 8), ((1,), 5), ((4, 2), 16), ((6, 1), 9)):
            picture = some_picture(chance, 4, height, depths)
            for number in range(2):
                palette = None if number == 0 else Palette(picture.colour_list(), depths)
                plan = careful_plan(chance, picture, palette, "", 2)
                chunks = list(chunks_of(write_file(picture, plan)))
                first = [k for k, (kind, _) in enumerate(chunks) if kind == 2][0]
                body = body_of(picture, palette)
                for one, other in combinations(range(height), 2):
                    if (one + other) % 3:
                        continue
                    told = known(salvage(without(chunks, [first + one, first + other])))
                    for z, sheet in enumerate(body):
                        step = sheet.modulus // gcd(sheet.modulus, other - one)
                        steps.add(step)
                        for x, y in product(range(4), (one, other)):
                            rest, own = told.answer(z, Question.cell(x, y))
                            self.assertEqual((rest, own), (sheet[x, y] % step, step))
                        for x, y in product(range(4), set(range(height)) - {one, other}):
                            self.assertEqual(told.answer(z, Question.cell(x, y)), (sheet[x, y], sheet.modulus))
        self.assertGreater(len(steps), 5)

    def test_two_lost_tracks_by_hand(self):
        picture = some_picture(chances(4), 2, 5, (3,))
        chunks = list(chunks_of(write_file(picture, careful_plan(chances(4), picture, None, "", 2))))
        remains = salvage(without(chunks, [1, 5]))
        # The distance is 4, and 8 // 4 is 2.
        self.assertEqual(sample_values(remains, 0, 0, 0), [picture[0, 0][0] % 2 + 2 * k for k in range(4)])
        remains = salvage(without(chunks, [1, 2]))
        self.assertEqual(sample_values(remains, 0, 0, 0), [picture[0, 0][0]])


if __name__ == "__main__":
    unittest.main()
