"""Points 72 and 84: the facts of remains, and what they tell."""

import unittest

from keptpictures.errors import Clash, TooLarge
from keptpictures.files.plan import even_plan
from keptpictures.files.reader import Reader
from keptpictures.files.whole import chunks_of
from keptpictures.files.writer import write_file
from keptpictures.hurts.fitting import fits
from keptpictures.hurts.remains import salvage
from keptpictures.knowledge.facts import facts_of, known
from keptpictures.knowledge.knowledge import Knowledge
from keptpictures.pictures.picture import Picture
from keptpictures.sheets.question import Question
from keptpictures.sheets.sheet import Sheet
from tests.chunks_by_hand import chunk_by_hand
from tests.codes_by_hand import binary
from tests.files_by_hand import bytes_of, lanes_by_hand, packed_by_hand
from tests.filters_by_hand import folds_by_hand, prediction_by_hand
from tests.helpers import are_plain_integers, chances, numbered, some_picture
from tests.knowledge_by_hand import satisfies
from tests.passes_by_hand import tracks_by_hand
from tests.remains_by_hand import data_of_content, spare_of_content
from tests.test_fitting import bodies_of
from tests.torn_files import some_remains, torn_case, torn_in_some_way, without


def unit_sheets(modulus, width, height):
    """Return the sheets with one sample 1, with their cells, in row order."""
    return [((x, y), Sheet.even(modulus, width, height).changed(x, y, 1 % modulus))
            for y in range(height) for x in range(width)]


def facts_by_hand(head, data, spares, z):
    """Return the facts, each weight found by looking at a sheet with one sample 1."""
    modulus, facts = head.moduli[z], []
    units = unit_sheets(modulus, head.width, head.height)
    lanes = lanes_by_hand(head.width, head.height, head.word, len(head.moduli))
    folded = folds_by_hand(modulus)
    for content in data:
        first, _, filters, rows = data_of_content(head, content)
        for lane, number, row in zip(range(first, first + len(filters)), filters, rows):
            _, y, columns, sheet = lanes[lane]
            if sheet != z:
                continue
            for x, own in zip(columns, row):
                weights = [(cell, (unit[x, y] - prediction_by_hand(unit, x, y, number, head.word)) % modulus)
                           for cell, unit in units]
                facts.append((tuple((*cell, weight) for cell, weight in weights if weight), folded[own]))
    for content in spares:
        number, rows = spare_of_content(head, content)
        own = [track for track in tracks_by_hand(head.width, head.height, head.word) if track[0] == number]
        for s in range(head.spares):
            for place, value in enumerate(rows[s * len(head.moduli) + z]):
                weights = {(columns[place], y): (k + 1) ** s % modulus for k, (_, y, columns) in enumerate(own)}
                terms = sorted([(y, x, weight) for (x, y), weight in weights.items() if weight])
                facts.append((tuple((x, y, weight) for y, x, weight in terms), value))
    return facts


class FactsTest(unittest.TestCase):
    def test_filters_by_hand(self):
        # One row of four cells with 2 bits each; 0, 1, 2, 3 are folded to 0, 2, 3, 1.
        for number, facts in ((0, [(((0, 0, 1),), 0), (((1, 0, 1),), 1), (((2, 0, 1),), 2), (((3, 0, 1),), 3)]),
                              (1, [(((0, 0, 1),), 0), (((0, 0, 3), (1, 0, 1)), 1), (((1, 0, 3), (2, 0, 1)), 2),
                                   (((2, 0, 3), (3, 0, 1)), 3)]),
                              (6, [(((0, 0, 1),), 0), (((0, 0, 2), (1, 0, 1)), 1),
                                   (((0, 0, 1), (1, 0, 2), (2, 0, 1)), 2), (((1, 0, 1), (2, 0, 2), (3, 0, 1)), 3)])):
            bits = binary(number, 3) + "00" + "10" + "11" + "01"
            remains = salvage(bytes_of([(0, (4, 1, 1, 0, 2, 0, 0, 0)), (2, (0, 0, 1, 4) + packed_by_hand(bits))]))
            self.assertEqual(facts_of(remains, 0), facts)
            self.assertEqual(facts_of(remains=remains, z=0), facts)

    def test_weights_that_vanish(self):
        # Twice the sample to the left is nothing modulo 2.
        remains = salvage(bytes_of([(0, (3, 1, 1, 0, 1, 0, 0, 0)), (2, (0, 0, 1, 2) + packed_by_hand("110" + "101"))]))
        self.assertEqual(facts_of(remains, 0), [(((0, 0, 1),), 1), (((1, 0, 1),), 0), (((0, 0, 1), (2, 0, 1)), 1)])

    def test_facts_without_terms_stay(self):
        # One colour alone: the modulus is 1.
        remains = salvage(bytes_of([(0, (2, 1, 1, 0, 1, 1, 0, 1)), (2, (0, 0, 1, 0) + packed_by_hand("001")),
                                    (3, (0,))]))
        self.assertEqual(facts_of(remains, 0), [((), 0)] * 4)
        self.assertEqual(known(remains).count(), 1)
        # In spare number 1 the second track counts twice: nothing modulo 2.
        remains = salvage(bytes_of([(0, (1, 2, 1, 0, 1, 0, 0, 2)), (3, (0,) + packed_by_hand("1" + "0"))]))
        self.assertEqual(facts_of(remains, 0), [(((0, 0, 1), (0, 1, 1)), 1), (((0, 0, 1),), 0)])

    def test_spares_by_hand(self):
        remains = salvage(bytes_of([(0, (2, 3, 1, 0, 4, 0, 0, 3)),
                                    (3, (0,) + packed_by_hand("0001" "0010" "0011" "0100" "0101" "0110"))]))
        cells = [((0, 0), (0, 1), (0, 2)), ((1, 0), (1, 1), (1, 2))]
        weights = [(1, 1, 1), (1, 2, 3), (1, 4, 9)]
        self.assertEqual(facts_of(remains, 0),
                         [(tuple((*cell, weight) for cell, weight in zip(cells[i], weights[s])), 2 * s + i + 1)
                          for s in range(3) for i in range(2)])

    def test_each_sheet_by_itself_and_in_order(self):
        # Lane 1 is the first track of the second sheet, lane 2 the second track of the first one.
        data = (2, (0, 1, 2, 64, 1, 0, 0, 2) + packed_by_hand("000" "01" "010" "01"))
        spare = (3, (0,) + packed_by_hand("1" "10"))
        remains = salvage(bytes_of([(0, (1, 2, 2, 0, 1, 2, 0, 0, 1)), spare, data, data]))
        own = (((0, 0, 1), (0, 1, 1)), 1)
        self.assertEqual(facts_of(remains, 0), [own, own, own])
        told = (((0, 0, 1),), 3)
        self.assertEqual(facts_of(remains, 1), [told, told, (((0, 0, 1), (0, 1, 1)), 2)])

    def test_as_the_document_says(self):
        chance = chances(1)
        for _ in range(60):
            depths = tuple(chance.randint(1, 5) for _ in range(chance.randint(1, 3)))
            word = "".join(chance.choice("ad") for _ in range(chance.randint(0, 3)))
            _, _, chunks, _ = torn_case(chance, chance.randint(1, 6), chance.randint(1, 6), depths,
                                        coloured=chance.random() < 0.5, word=word, spares=chance.randint(0, 3))
            remains = salvage(torn_in_some_way(chance, chunks))
            for z in range(len(remains.head.moduli)):
                told = facts_of(remains, z)
                self.assertEqual(told, facts_by_hand(remains.head, remains.data, remains.spares, z))
                self.assertIs(type(told), list)
                self.assertTrue(are_plain_integers(told))

    def test_a_body_fits_if_it_satisfies_the_facts(self):
        chance = chances(2)
        for _ in range(60):
            remains = some_remains(chance)
            head = remains.head
            facts = [facts_of(remains, z) for z in range(len(head.moduli))]
            for body in bodies_of(head.width, head.height, head.moduli):
                wanted = all(satisfies(sheet, own) for sheet, own in zip(body, facts))
                self.assertIs(fits(remains, body), wanted)

    def test_heads_of_every_size(self):
        picture = some_picture(chances(3), 40, 40, (3, 1), True)
        remains = salvage(write_file(picture, even_plan(picture, word="da", spares=2, kind=4)))
        for z, plane in enumerate(picture.planes):
            told = facts_of(remains, z)
            spares = 2 * (20 + 20 + 20)
            self.assertEqual(len(told), 1600 + spares)
            self.assertTrue(satisfies(plane, told))
        with self.assertRaises(TooLarge):
            known(remains)

    def test_sharing(self):
        remains = salvage(bytes_of([(0, (2, 1, 1, 0, 1, 0, 0, 0)), (2, (0, 0, 1, 0, 4))]))
        facts_of(remains, 0).clear()
        self.assertEqual(len(facts_of(remains, 0)), 2)


class KnownTest(unittest.TestCase):
    def test_the_example_of_the_document(self):
        remains = salvage((128, 2, 1, 1, 0, 1, 0, 0, 0, 8, 11, 87, 132, 0, 4, 8))
        self.assertEqual((remains.report, known(remains).count()), (((0, 12, 0, "kept"), (12, 16, 4, "idle")), 4))

    def test_size_moduli_and_facts(self):
        chance = chances(4)
        for _ in range(60):
            remains = some_remains(chance)
            head = remains.head
            facts = [facts_of(remains, z) for z in range(len(head.moduli))]
            try:
                told = known(remains)
            except Clash as clash:
                with self.assertRaises(Clash) as caught:
                    Knowledge(head.width, head.height, head.moduli, facts)
                self.assertEqual((clash.sheet, len(clash.factors)), (caught.exception.sheet, len(facts[clash.sheet])))
                continue
            self.assertEqual((told.width, told.height, told.moduli), (head.width, head.height, head.moduli))
            self.assertEqual([told.facts(z) for z in range(len(head.moduli))], facts)
            bodies = [body for body in bodies_of(head.width, head.height, head.moduli) if fits(remains, body)]
            self.assertEqual(told.count(), len(bodies))
            self.assertTrue(all(told.allows(body) for body in bodies))

    def test_64_cells_and_65(self):
        for width, height, right in ((8, 8, True), (13, 5, False), (40, 1, True), (40, 2, False)):
            picture = numbered(width, height)
            remains = salvage(write_file(picture, even_plan(picture, kind=1)))
            if right:
                self.assertEqual(known(remains=remains).least_sheet(0), picture.planes[0])
            else:
                with self.assertRaises(TooLarge):
                    known(remains)

    def test_too_many_facts(self):
        picture = Picture.of((1,), [[(1,)] * 40])
        data = write_file(picture, even_plan(picture))
        chunk = data[12:-4]
        self.assertEqual(known(salvage(data[:-4] + chunk * 9)).count(), 1)
        with self.assertRaises(TooLarge):
            known(salvage(data[:-4] + chunk * 10))

    def test_pieces_that_contradict_each_other(self):
        head, data = (0, (2, 1, 1, 0, 1, 0, 0, 0)), (2, (0, 0, 1, 0, 4))
        with self.assertRaises(Clash) as caught:
            known(salvage(bytes_of([head, data, (2, (0, 0, 1, 0, 0))])))
        self.assertEqual((caught.exception.sheet, caught.exception.factors), (0, (0, 1, 0, 1)))

    def test_files_that_were_cut(self):
        chance = chances(5)
        for coloured in (False, True):
            for word, spares in (("", 0), ("a", 1), ("da", 2)):
                picture, _, chunks, data = torn_case(chance, 4, 3, (2, 3), coloured=coloured, word=word, spares=spares)
                end_of_head = len(chunk_by_hand(*chunks[0]))
                for end in range(end_of_head, len(data) + 1, 3):
                    self.require_cut(data[:end], chunks)

    def require_cut(self, data, chunks):
        """Compare what the beginning of a file tells with what a reader has received."""
        reader = Reader()
        reader.feed(*data)
        remains = salvage(data)
        whole = chunks[:reader.whole_chunks]
        self.assertEqual(remains.data, tuple(content for kind, content in whole if kind == 2))
        self.assertEqual(remains.spares, tuple(content for kind, content in whole if kind == 3))
        self.assertIs(remains.palette is not None, any(kind == 1 for kind, _ in whole))
        head, told = remains.head, known(remains)
        lanes = lanes_by_hand(head.width, head.height, head.word, len(head.moduli))
        for lane, (_, y, columns, z) in enumerate(lanes):
            for x in columns:
                step = head.moduli[z] if lane < reader.received_lanes else 1
                self.assertEqual(told.answer(z, Question.cell(x, y))[1], step)

    def test_lost_chunks(self):
        picture = numbered(3, 3, (4,))
        chunks = list(chunks_of(write_file(picture, even_plan(picture, spares=1, most=1))))
        told = known(salvage(without(chunks, [2])))
        # The second row is lost, but the sums of the columns are left.
        self.assertEqual((told.count(), told.least_sheet(0)), (1, picture.planes[0]))
        told = known(salvage(without(chunks, [2, 3])))
        self.assertEqual(told.count(), 16 ** 3)
        self.assertEqual(told.answer(0, Question([(0, 1, 1), (0, 2, 1)])), (9, 16))


if __name__ == "__main__":
    unittest.main()
