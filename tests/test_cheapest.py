"""Points 86 and 89: families of plans, and the cheapest one of each."""

import time
import unittest
from itertools import product

from keptpictures.errors import KeepError, TooMany
from keptpictures.files.plan import Plan, even_plan
from keptpictures.files.whole import chunks_of, read_file, read_plan
from keptpictures.files.writer import write_file
from keptpictures.palettes.orders import palette_of
from keptpictures.pictures.picture import Picture
from keptpictures.planning.cheapest import cheapest
from tests.helpers import chances, numbered, some_picture
from tests.planning_by_hand import Stretches, cheapest_by_hand, plans_by_hand

ORDERS = ("none", "value", "first", "often")


def small_picture(chance):
    depths = chance.choice(((1,), (1,), (2,), (1, 1)))
    height = {(1,): 3, (2,): 2, (1, 1): 1}[depths]
    mask = depths == (1, 1) and chance.random() < 0.5
    return some_picture(chance, chance.randint(1, 6), chance.randint(1, height), depths, mask)


class CheapestTest(unittest.TestCase):
    def test_a_search_over_all_plans(self):
        chance = chances(1)
        for number in range(30):
            picture = small_picture(chance)
            orders = tuple(chance.choice(ORDERS) for _ in range(chance.randint(1, 4)))
            words = tuple(chance.choice(("", "a", "d")) for _ in range(chance.randint(1, 2)))
            spares, careful = chance.randint(0, 3), number % 3 == 0
            told = cheapest(picture, orders=orders, words=words, spares=spares, careful=careful)
            self.assertEqual(told, cheapest_by_hand(picture, orders, words, spares, careful))
            self.assertEqual(read_file(write_file(picture, told)), picture)

    def test_all_filters_of_small_plans(self):
        # Also plans whose filters are not the best ones have no shorter files.
        chance = chances(2)
        for careful in (False, True):
            picture = some_picture(chance, 3, 2, (2,))
            kinds = (0, 1, 6) if careful else range(8)
            least = len(write_file(picture, cheapest(picture, orders=("none",), careful=careful)))
            lengths = []
            for _, _, _, plan in plans_by_hand(picture, ("none",), ("",), 0, careful):
                for filters in product(kinds, repeat=2):
                    rest, chunks = list(filters), []
                    for count, code, _ in plan.chunks:
                        chunks.append((count, code, tuple(rest[:count])))
                        rest = rest[count:]
                    lengths.append(len(write_file(picture, Plan(chunks=chunks))))
            self.assertEqual(min(lengths), least)

    def test_the_price_of_the_plan(self):
        chance = chances(3)
        for _ in range(30):
            depths = tuple(chance.randint(1, 6) for _ in range(chance.randint(1, 4)))
            picture = some_picture(chance, chance.randint(1, 12), chance.randint(1, 12), depths)
            for careful in (False, True):
                told = cheapest(picture, words=("", "ad"), spares=chance.randint(0, 3), careful=careful)
                length = len(write_file(picture, told))
                for word, code, kind in product(("", "ad"), (0, 2, 5, 7), (0, 1, 6)):
                    palette = None if told.palette is None else palette_of(picture).entries
                    sheets = 1 if told.palette is not None else len(depths)
                    top = len(palette) if palette else 2 ** max(depths)
                    if code > 2 * (top - 1).bit_length() + 1:
                        continue
                    plan = even_plan(picture, palette=palette, word=word, spares=told.spares, code=code, kind=kind,
                                     most=sheets if careful else 100)
                    self.assertLessEqual(length, len(write_file(picture, plan)))

    def test_careful_plans(self):
        picture = some_picture(chances(4), 6, 5, (3, 2))
        for word in ("", "a", "da"):
            told = cheapest(picture, orders=("none",), words=(word,), spares=2, careful=True)
            self.assertEqual({count for count, _, _ in told.chunks}, {2})
            self.assertTrue({kind for _, _, kinds in told.chunks for kind in kinds} <= {0, 1, 6})
            self.assertEqual((told.word, told.spares), (word, 2))
        told = cheapest(picture, orders=("value",), spares=1, careful=True)
        self.assertEqual({count for count, _, _ in told.chunks}, {1})

    def test_the_form_that_is_given_first_wins(self):
        # With the same colours in each order the three palettes are one.
        picture = Picture.of((3,), [[(1,), (1,), (2,)], [(1,), (2,), (3,)]])
        for orders in (("first", "value", "often"), ("often", "first"), ("value", "often")):
            self.assertEqual(cheapest(picture, orders=orders).palette, ((1,), (2,), (3,)))
        picture = Picture.of((1,), [[(1,), (0,)] * 4])
        lengths = {order: len(write_file(picture, cheapest(picture, orders=(order,)))) for order in ORDERS}
        self.assertEqual(lengths["value"], lengths["first"])
        self.assertEqual(cheapest(picture, orders=("first", "value")).palette, ((1,), (0,)))
        self.assertEqual(cheapest(picture, orders=("value", "first")).palette, ((0,), (1,)))
        self.assertEqual(cheapest(picture, orders=("often", "value", "often")).palette, ((0,), (1,)))

    def test_the_word_that_is_given_first_wins(self):
        picture = Picture.of((1,), [[(0,)]])
        for words in (("a", "d"), ("d", "a"), ("d", "d", "a")):
            self.assertEqual(cheapest(picture, words=words).word, words[0])
        self.assertEqual(cheapest(picture, words=("ad", "a", "", "")).word, "")

    def test_the_form_wins_before_the_word(self):
        # Its files have 58 bytes without a palette and with the word "aa", or with a palette and the word "ad".
        rows = ((1, 2, 2, 2, 2, 1, 1, 1, 1), (1, 1, 1, 1, 2, 2, 1, 3, 2), (1, 2, 1, 1, 3, 2, 1, 3, 3))
        colours = {1: (10,), 2: (20,), 3: (14,)}
        picture = Picture.of((5,), [[colours[number] for number in row] for row in rows])
        lengths = {(order, word): len(write_file(picture, cheapest(picture, orders=(order,), words=(word,))))
                   for order in ("none", "value") for word in ("aa", "ad")}
        self.assertEqual(lengths, {("none", "aa"): 58, ("value", "ad"): 58, ("none", "ad"): 59, ("value", "aa"): 59})
        for orders, words in product((("none", "value"), ("value", "none")), (("aa", "ad"), ("ad", "aa"))):
            told = cheapest(picture, orders=orders, words=words)
            self.assertEqual((told.palette is None, told.word), (True, "aa") if orders[0] == "none" else (False, "ad"))

    def test_the_greatest_count_and_the_least_preset_win(self):
        chance = chances(6)
        for _ in range(20):
            picture = some_picture(chance, chance.randint(1, 8), chance.randint(1, 30), (1,))
            told = cheapest(picture, orders=("none",))
            stretches = Stretches(picture.planes, "")
            values = [0] * (picture.height + 1)
            for a in reversed(range(picture.height)):
                values[a] = min(stretches.price(a, count, preset) + values[a + count]
                                for count in range(1, picture.height - a + 1) for preset in stretches.presets)
            lane, chunks = 0, []
            while lane < picture.height:
                count, preset = min((-count, preset) for count in range(1, picture.height - lane + 1)
                                    for preset in stretches.presets
                                    if stretches.price(lane, count, preset) + values[lane + count] == values[lane])
                chunks.append((-count, preset, stretches.least_filters(lane, -count, preset)))
                lane -= count
            self.assertEqual(told.chunks, tuple(chunks))

    def test_chunks_of_any_counts(self):
        # Stretches of noise and of calm rows, so that several chunks are cheaper than one.
        chance = chances(10)
        counts = set()
        for _ in range(12):
            rows = []
            for _ in range(chance.randint(2, 4)):
                noisy = chance.random() < 0.5
                rows += [[(chance.randrange(65536 if noisy else 4),) for _ in range(20)]
                         for _ in range(chance.randint(1, 4))]
            picture = Picture.of((16,), rows)
            told = cheapest(picture, orders=("none",))
            stretches = Stretches(picture.planes, "")
            values = [0] * (len(rows) + 1)
            for a in reversed(range(len(rows))):
                values[a] = min(stretches.price(a, count, preset) + values[a + count]
                                for count in range(1, len(rows) - a + 1) for preset in stretches.presets)
            lane = 0
            for count, preset, kinds in told.chunks:
                reached = [(-more, other) for more in range(1, len(rows) - lane + 1) for other in stretches.presets
                           if stretches.price(lane, more, other) + values[lane + more] == values[lane]]
                self.assertEqual((-count, preset), min(reached))
                self.assertEqual(kinds, stretches.least_filters(lane, count, preset))
                lane += count
            self.assertEqual(lane, len(rows))
            counts |= {count for count, _, _ in told.chunks if count < len(rows)}
        self.assertTrue({1, 2, 3} <= counts, counts)

    def test_each_order_wins_by_default(self):
        chance = chances(11)
        won = set()
        for _ in range(400):
            colours = [chance.randrange(2 ** 8) for _ in range(chance.randint(3, 8))]
            rows = [[(chance.choice(colours[:chance.randint(1, len(colours))]),) for _ in range(chance.randint(8, 8))]
                    for _ in range(8)]
            picture = Picture.of((8,), rows)
            lengths = {order: len(write_file(picture, cheapest(picture, orders=(order,)))) for order in ORDERS}
            least = [order for order in ORDERS if lengths[order] == min(lengths.values())]
            if len(least) > 1 or least[0] in won:
                continue
            won.add(least[0])
            self.assertEqual(cheapest(picture), cheapest(picture, orders=(least[0],)))
            if len(won) == 3 and "none" not in won or len(won) == 4:
                break
        self.assertTrue({"value", "first", "often"} <= won, won)

    def test_more_lanes_than_a_chunk_holds(self):
        picture = Picture.of((1,) * 4, [[(0,) * 4]] * 40)
        told = cheapest(picture, orders=("none",))
        counts = [count for count, _, _ in told.chunks]
        self.assertEqual((sum(counts), len(counts), max(counts) <= 100), (160, 2, True))
        self.assertEqual(told, cheapest(picture, orders=("none", "none")))

    def test_64_colours_and_65(self):
        right, wrong = numbered(8, 8, (7,)), numbered(13, 5, (7,))
        self.assertEqual(len(cheapest(right, orders=("often",)).palette), 64)
        for orders in (("value",), ("first", "often", "value"), ("often",) * 4):
            with self.assertRaises(TooMany) as caught:
                cheapest(wrong, orders=orders)
            self.assertEqual(caught.exception.number, 65)
            self.assertIsInstance(caught.exception, KeepError)
        told = cheapest(wrong, orders=("value", "none", "first"))
        self.assertIsNone(told.palette)
        self.assertEqual(told, cheapest(wrong))
        with self.assertRaises(TooMany) as caught:
            cheapest(numbered(40, 40), orders=("first",))
        self.assertEqual(caught.exception.number, 1600)

    def test_defaults(self):
        picture = some_picture(chances(7), 5, 5, (2, 1))
        told = cheapest(picture)
        self.assertEqual(told, cheapest(picture, orders=ORDERS, words=("",), spares=0, careful=False))
        self.assertEqual((told.word, told.spares), ("", 0))
        self.assertEqual(cheapest(picture=picture, spares=3).spares, 3)
        self.assertEqual(read_plan(write_file(picture, told)), told)

    def test_pictures_with_a_mask(self):
        picture = some_picture(chances(8), 6, 4, (3, 1), True)
        for orders in (("none",), ("value",)):
            data = write_file(picture, cheapest(picture, orders=orders, words=("ad",), spares=1))
            self.assertEqual(read_file(data), picture)

    def test_the_bounds_are_answered_soon(self):
        chance = chances(9)
        noise = some_picture(chance, 40, 40, (16,) * 4)
        few = Picture.of((8,) * 4, [[(chance.choice((3, 9, 200)),) * 4 for _ in range(40)] for _ in range(40)])
        for picture, word in ((noise, ""), (noise, "adadad"), (few, ""), (few, "dddaaa")):
            begun = time.perf_counter()
            told = cheapest(picture, words=(word,), spares=3)
            self.assertLess(time.perf_counter() - begun, 20)
            data = write_file(picture, told)
            self.assertEqual(read_file(data), picture)
            self.assertEqual(len([kind for kind, _ in chunks_of(data) if kind == 2]), len(told.chunks))


if __name__ == "__main__":
    unittest.main()
