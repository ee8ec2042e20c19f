"""Points 58 and 60: plans, and even plans."""

import unittest

from keptpictures.files.plan import Plan, even_plan
from keptpictures.passes.tracks import tracks
from tests.helpers import are_plain_integers, chances, some_picture

TABLE = (((1, 0), (2, 1)), (2, 3))


class PlanTest(unittest.TestCase):
    def test_the_parts_are_what_was_passed(self):
        chunks = ((2, 5, (0, 7)), (1, TABLE, (3,)))
        plan = Plan(((0, 1), (1, 1)), word="ad", spares=3, chunks=chunks)
        self.assertEqual((plan.palette, plan.word, plan.spares, plan.chunks), (((0, 1), (1, 1)), "ad", 3, chunks))

    def test_parts_that_are_left_out(self):
        plan = Plan()
        self.assertEqual((plan.palette, plan.word, plan.spares, plan.chunks), (None, "", 0, ()))
        self.assertTrue(Plan(palette=None) == plan)

    def test_all_but_the_palette_are_passed_by_name_alone(self):
        with self.assertRaises(TypeError):
            Plan(None, "a")

    def test_lists_become_tuples_and_are_not_kept(self):
        palette, chunks = [(0,), (1,)], [(1, 0, (0,))]
        plan = Plan(palette, chunks=chunks)
        palette.append((1,))
        chunks[0] = 5
        self.assertEqual((plan.palette, plan.chunks), (((0,), (1,)), ((1, 0, (0,)),)))
        self.assertEqual((palette, chunks), ([(0,), (1,), (1,)], [5]))
        self.assertIs(type(plan.palette), tuple)
        self.assertIs(type(plan.chunks), tuple)

    def test_lists_within_chunks_are_not_kept_either(self):
        filters, rungs = [0, 1], [(0, 1)]
        plan = Plan(chunks=[(2, (rungs, None), filters)])
        filters.append(2)
        rungs.append(3)
        self.assertEqual(plan.chunks, ((2, (((0, 1),), None), (0, 1)),))

    def test_nothing_is_refused(self):
        for word in ("zzz", "a" * 10):
            self.assertEqual(Plan(word=word).word, word)
        plan = Plan([], spares=-1000, chunks=[(-5, 64, ()), (0, 1000, (8, -1)), (1, ((), (50, 99)), (0,))])
        self.assertEqual(plan.palette, ())
        self.assertEqual(plan.chunks, ((-5, 64, ()), (0, 1000, (8, -1)), (1, ((), (50, 99)), (0,))))
        self.assertEqual(Plan([(9, 9), (9, 9)]).palette, ((9, 9), (9, 9)))

    def test_equal_plans_have_all_four_parts_equal(self):
        def made(palette=((0,),), word="a", spares=1, chunks=((1, 0, (0,)),)):
            return Plan(palette, word=word, spares=spares, chunks=chunks)

        self.assertTrue(made() == made(palette=[(0,)], chunks=[(1, 0, (0,))]))
        self.assertFalse(made() != made())
        others = (made(palette=None), made(palette=()), made(palette=((1,),)), made(palette=((0,), (1,))),
                  made(word=""), made(word="d"), made(spares=0), made(chunks=()), made(chunks=((1, 0, (1,)),)),
                  made(chunks=((1, 1, (0,)),)), made(chunks=((2, 0, (0,)),)), made(chunks=((1, TABLE, (0,)),)),
                  made(chunks=((1, (TABLE[0], None), (0,)),)), made(chunks=((1, 0, (0,)),) * 2))
        for place, other in enumerate(others):
            self.assertFalse(made() == other)
            self.assertTrue(made() != other)
            for later in others[place + 1:]:
                self.assertFalse(later == other)

    def test_a_plan_equals_nothing_but_plans(self):
        for other in (None, 0, (), (None, "", 0, ()), "plan"):
            self.assertFalse(Plan() == other)
            self.assertTrue(Plan() != other)


def even_by_hand(sheets, picture, word, code, kind, most):
    """Return the chunks of an even plan, lane by lane."""
    chunks, before = [], None
    for track in tracks(picture.width, picture.height, word):
        for _ in range(sheets):
            if track[0] != before or chunks[-1] == most:
                chunks.append(0)
                before = track[0]
            chunks[-1] += 1
    return tuple((count, code, (kind,) * count) for count in chunks)


class EvenPlanTest(unittest.TestCase):
    def setUp(self):
        self.chance = chances(60)

    def test_the_smallest_one(self):
        plan = even_plan(some_picture(self.chance, 2, 1, (1,)))
        self.assertTrue(plan == Plan(chunks=((1, 0, (0,)),)))

    def test_arguments_by_name(self):
        picture = some_picture(self.chance, 3, 3, (2, 2))
        colours = picture.colour_list()
        plan = even_plan(picture, palette=colours, word="d", spares=2, code=3, kind=6, most=1)
        self.assertEqual((plan.palette, plan.word, plan.spares), (tuple(colours), "d", 2))
        self.assertEqual(plan.chunks, ((1, 3, (6,)),) * 3)
        self.assertTrue(even_plan(picture=picture) == even_plan(picture))
        with self.assertRaises(TypeError):
            even_plan(picture, colours)
        colours.append((0, 0))
        self.assertEqual(len(plan.palette), len(colours) - 1)

    def test_the_last_chunk_of_a_pass_has_what_is_left(self):
        picture = some_picture(self.chance, 1, 7, (1,))
        counts = {1: [1] * 7, 2: [2, 2, 2, 1], 3: [3, 3, 1], 6: [6, 1], 7: [7], 8: [7], 99: [7], 100: [7]}
        for most, wanted in counts.items():
            plan = even_plan(picture, most=most)
            self.assertEqual([count for count, _, _ in plan.chunks], wanted)

    def test_99_and_100_lanes(self):
        picture = some_picture(self.chance, 1, 40, (1, 1, 1, 1))
        for most, wanted in ((1, [1] * 160), (99, [99, 61]), (100, [100, 60]), (80, [80, 80])):
            self.assertEqual([count for count, _, _ in even_plan(picture, most=most).chunks], wanted)
        self.assertEqual([count for count, _, _ in even_plan(picture).chunks], [100, 60])

    def test_each_pass_begins_with_a_chunk_of_its_own(self):
        picture = some_picture(self.chance, 4, 4, (1,))
        plan = even_plan(picture, word="ad")
        self.assertEqual([count for count, _, _ in plan.chunks], [2, 2, 2])
        self.assertEqual([count for count, _, _ in even_plan(picture, word="a", most=3).chunks], [3, 1, 3, 1])

    def test_passes_without_tracks_have_no_chunks(self):
        picture = some_picture(self.chance, 1, 1, (1,))
        self.assertEqual(even_plan(picture, word="adadad").chunks, ((1, 0, (0,)),))
        tall = some_picture(self.chance, 1, 3, (1,))
        self.assertEqual([count for count, _, _ in even_plan(tall, word="ada").chunks], [2, 1])

    def test_a_palette_makes_one_sheet(self):
        picture = some_picture(self.chance, 2, 3, (1, 1, 1))
        self.assertEqual([count for count, _, _ in even_plan(picture).chunks], [9])
        plan = even_plan(picture, palette=picture.colour_list())
        self.assertEqual([count for count, _, _ in plan.chunks], [3])

    def test_chosen_pictures(self):
        for _ in range(60):
            depths = (1,) * self.chance.randint(1, 4)
            picture = some_picture(self.chance, self.chance.randint(1, 12), self.chance.randint(1, 12), depths)
            word = "".join(self.chance.choice("ad") for _ in range(self.chance.randint(0, 6)))
            code, kind = self.chance.randint(0, 3), self.chance.randint(0, 7)
            most = self.chance.choice((1, 2, 5, 99, 100))
            palette = self.chance.choice((None, tuple(picture.colour_list())))
            plan = even_plan(picture, palette=palette, word=word, spares=1, code=code, kind=kind, most=most)
            sheets = len(depths) if palette is None else 1
            self.assertEqual(plan.chunks, even_by_hand(sheets, picture, word, code, kind, most))
            self.assertEqual((plan.palette, plan.word, plan.spares), (palette, word, 1))
            self.assertTrue(are_plain_integers(plan.chunks))


if __name__ == "__main__":
    unittest.main()
