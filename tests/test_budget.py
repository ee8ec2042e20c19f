"""Point 90: the most lanes that the first bytes of a file can hold."""

import time
import unittest

from keptpictures.chunks.pieces import pieces
from keptpictures.errors import TooMany
from keptpictures.files.plan import even_plan
from keptpictures.files.reader import Reader
from keptpictures.files.writer import write_file
from keptpictures.palettes.orders import palette_of
from keptpictures.pictures.picture import Picture
from keptpictures.planning.budget import most_lanes
from keptpictures.planning.cheapest import cheapest
from tests.helpers import are_plain_integers, chances, numbered, some_picture
from tests.planning_by_hand import plans_by_hand

ORDERS = ("none", "value", "first", "often")


def lanes_at_ends(data):
    """Return the pairs (end of a chunk, lanes received by then)."""
    found, lanes = [], 0
    for start, end in pieces(data):
        if data[start] == 130:
            lanes += data[start + 3]
        found.append((end, lanes))
    return found


def lanes_after(data, budget):
    """Return how many lanes a reader has received after the first bytes of a file."""
    reader = Reader()
    reader.feed(*data[:budget])
    return reader.received_lanes


class MostLanesTest(unittest.TestCase):
    def test_a_search_over_all_plans(self):
        chance = chances(1)
        for number in range(12):
            depths = ((1,), (1,), (2,), (1, 1))[number % 4]
            picture = some_picture(chance, chance.randint(1, 5), {(1,): 3, (2,): 2, (1, 1): 1}[depths], depths)
            order, word, spares = chance.choice(ORDERS), chance.choice(("", "a", "d")), chance.randint(0, 3)
            # The lanes after each number of bytes, for the best plan of each.
            most = {}
            for _, _, _, plan in plans_by_hand(picture, (order,), (word,), spares):
                data = write_file(picture, plan)
                for end, lanes in lanes_at_ends(data):
                    most[end] = max(most.get(end, 0), lanes)
            self.assertEqual([lanes for _, lanes in lanes_at_ends(data)],
                             [lanes_after(data, end) for end, _ in lanes_at_ends(data)])
            for budget in range(max(most) + 3):
                wanted = max([lanes for at, lanes in most.items() if at <= budget] + [0])
                told = most_lanes(picture, budget, order=order, word=word, spares=spares)
                self.assertEqual(told, wanted, budget)
                self.assertTrue(are_plain_integers(told))

    def test_within_a_chunk_at_its_end_and_behind_the_file(self):
        # The head has 12 bytes, the one data chunk 9, and the end chunk 4.
        picture = Picture.of((1,), [[(0,), (1,)]])
        for budget, lanes in ((0, 0), (1, 0), (12, 0), (20, 0), (21, 1), (22, 1), (25, 1), (26, 1), (100000, 1)):
            self.assertEqual(most_lanes(picture, budget), lanes)
            self.assertEqual(most_lanes(picture=picture, budget=budget, order="none", word="", spares=0), lanes)

    def test_a_palette_and_spares_are_paid_for(self):
        picture = Picture.of((2,), [[(1,)], [(2,)]])
        # The palette chunk has 5 bytes; each lane alone has 8 + 1; both together have 8 + 2, or 8 + 1 with up and none.
        self.assertEqual([most_lanes(picture, budget, order="value") for budget in (16, 17 + 8, 17 + 9, 17 + 10)],
                         [0, 0, 1, 2])
        # Two passes: the first spare chunk of 4 + 1 + 1 bytes stands before the second data chunk.
        plain = [most_lanes(picture, budget, word="d") for budget in range(60)]
        spared = [most_lanes(picture, budget, word="d", spares=1) for budget in range(60)]
        self.assertEqual((plain.index(1), plain.index(2)), (13 + 9, 13 + 9 + 9))
        self.assertEqual((spared.index(1), spared.index(2)), (13 + 9, 13 + 9 + 6 + 9))

    def test_no_plan_receives_more(self):
        chance = chances(2)
        for _ in range(12):
            depths = tuple(chance.randint(1, 5) for _ in range(chance.randint(1, 3)))
            picture = some_picture(chance, chance.randint(1, 12), chance.randint(1, 12), depths)
            word, spares = chance.choice(("", "a", "da", "adadad")), chance.randint(0, 3)
            for order in ORDERS:
                try:
                    palette = None if order == "none" else palette_of(picture, order).entries
                except TooMany:
                    continue
                files = [write_file(picture, cheapest(picture, orders=(order,), words=(word,), spares=spares))]
                for most in (1, 3, 100):
                    files.append(write_file(picture, even_plan(picture, palette=palette, word=word, spares=spares,
                                                               code=2, kind=1, most=most)))
                before = 0
                for budget in range(0, len(files[1]) + 10, 1 + len(files[1]) // 8):
                    told = most_lanes(picture, budget, order=order, word=word, spares=spares)
                    self.assertTrue(all(told >= lanes_after(data, budget) for data in files if budget <= len(data)))
                    self.assertGreaterEqual(told, before)
                    before = told
                self.assertEqual(most_lanes(picture, len(files[0]), order=order, word=word, spares=spares),
                                 lanes_after(files[0], len(files[0])))

    def test_passes_without_tracks(self):
        picture = Picture.of((1,), [[(1,)]])
        self.assertEqual(most_lanes(picture, 100000, word="adadad", spares=3), 1)
        self.assertEqual(most_lanes(picture, 0, word="adadad"), 0)

    def test_too_many_colours(self):
        picture = numbered(13, 5)
        for order in ORDERS[1:]:
            for budget in (0, 100000):
                with self.assertRaises(TooMany) as caught:
                    most_lanes(picture, budget, order=order)
                self.assertEqual(caught.exception.number, 65)
        self.assertEqual(most_lanes(picture, 100000), 5)
        self.assertEqual(most_lanes(numbered(8, 8), 100000, order="often"), 8)

    def test_the_bounds_are_answered_soon(self):
        picture = some_picture(chances(3), 40, 40, (16,) * 4)
        for budget, word in ((0, ""), (6000, ""), (100000, ""), (100000, "adadad")):
            begun = time.perf_counter()
            told = most_lanes(picture, budget, word=word, spares=3)
            self.assertLess(time.perf_counter() - begun, 20)
            self.assertTrue(told in (0, 300, 160) or 0 < told < 160)

    def test_a_budget_ends_within_a_real_file(self):
        # What is told for the length of a beginning is received by some plan, so it is no more than a file has.
        picture = some_picture(chances(4), 6, 6, (3,))
        data = write_file(picture, cheapest(picture, orders=("none",)))
        self.assertEqual(most_lanes(picture, len(data) - 4), 6)
        self.assertLess(most_lanes(picture, len(data) - 5), 6)


if __name__ == "__main__":
    unittest.main()
