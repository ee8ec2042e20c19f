"""Points 24, 25, 27 and 28: pass words, tracks, lanes and pass bounds."""

import inspect
import unittest

from keptpictures.passes.tracks import grid_steps, is_word, pass_bounds, pass_of, tracks
from tests.helpers import are_plain_integers
from tests.passes_by_hand import SIZES, WORDS, pass_by_hand, steps_by_hand, tracks_by_hand


def columns(track):
    """Return the columns of the cells of a track."""
    _, _, first, step, count = track
    return [first + step * place for place in range(count)]


class WordTest(unittest.TestCase):
    def test_pass_words(self):
        for word in WORDS:
            self.assertIs(is_word(word), True, word)

    def test_seven_letters_are_too_many(self):
        for word in ("aaaaaaa", "ddddddd", "adadada", "aaaaaaaa", "dddddddddd"):
            self.assertIs(is_word(word), False, word)

    def test_other_letters(self):
        for word in ("b", "z", "c", "e", "ab", "ba", "daz", "aadda" + "x", "zzzzzz", "aaaaaaaaab", "abcdefghij"):
            self.assertIs(is_word(word), False, word)


class GridTest(unittest.TestCase):
    def test_the_steps_of_an_example(self):
        self.assertEqual([grid_steps("aad", number) for number in range(4)], [(4, 2), (2, 2), (1, 2), (1, 1)])
        self.assertEqual([grid_steps("da", number) for number in range(3)], [(2, 2), (2, 1), (1, 1)])

    def test_the_empty_word_has_one_grid(self):
        self.assertEqual(grid_steps("", 0), (1, 1))

    def test_six_letters(self):
        self.assertEqual([grid_steps("aaaaaa", number) for number in (0, 1, 5, 6)], [(64, 1), (32, 1), (2, 1), (1, 1)])
        self.assertEqual([grid_steps("dddddd", number) for number in (0, 1, 5, 6)], [(1, 64), (1, 32), (1, 2), (1, 1)])

    def test_the_steps_of_every_word(self):
        for word in WORDS:
            for number in range(len(word) + 1):
                self.assertEqual(grid_steps(word, number), steps_by_hand(word, number), (word, number))
        self.assertTrue(are_plain_integers(grid_steps("ad", 0)))

    def test_the_passes_of_an_example(self):
        got = [[pass_of(x, y, "ad") for x in range(5)] for y in range(3)]
        self.assertEqual(got, [[0, 1, 0, 1, 0], [2, 2, 2, 2, 2], [0, 1, 0, 1, 0]])
        got = [[pass_of(x, y, "da") for x in range(5)] for y in range(3)]
        self.assertEqual(got, [[0, 2, 0, 2, 0], [1, 2, 1, 2, 1], [0, 2, 0, 2, 0]])

    def test_all_cells_of_the_empty_word_are_in_pass_0(self):
        self.assertEqual({pass_of(x, y, "") for x in range(40) for y in range(40)}, {0})

    def test_the_pass_of_every_cell(self):
        for word in WORDS:
            for x, y in ((0, 0), (39, 39), (32, 0), (0, 32), (16, 32), (8, 4), (3, 2), (2, 3), (1, 0), (0, 1), (6, 12)):
                self.assertEqual(pass_of(x, y, word), pass_by_hand(x, y, word), (x, y, word))


class TracksTest(unittest.TestCase):
    def test_the_example_of_the_document(self):
        wanted = [(0, 0, 0, 2, 2), (0, 1, 0, 2, 2), (1, 0, 1, 2, 1), (1, 1, 1, 2, 1)]
        self.assertEqual(list(tracks(3, 2, "a")), wanted)

    def test_it_is_a_generator(self):
        self.assertTrue(inspect.isgeneratorfunction(tracks))
        self.assertTrue(inspect.isgenerator(tracks(3, 2)))
        self.assertEqual(next(tracks(40, 40, "adadad")), (0, 0, 0, 8, 5))

    def test_without_a_word_each_row_is_a_track(self):
        for width, height in SIZES:
            wanted = [(0, y, 0, 1, width) for y in range(height)]
            self.assertEqual(list(tracks(width, height)), wanted)
            self.assertEqual(list(tracks(width, height, "")), wanted)

    def test_a_pass_down(self):
        self.assertEqual(list(tracks(2, 4, "d")), [(0, 0, 0, 1, 2), (0, 2, 0, 1, 2), (1, 1, 0, 1, 2), (1, 3, 0, 1, 2)])

    def test_several_passes(self):
        wanted = [(0, 0, 0, 2, 3), (0, 2, 0, 2, 3), (1, 0, 1, 2, 2), (1, 2, 1, 2, 2),
                  (2, 1, 0, 1, 5)]
        self.assertEqual(list(tracks(5, 3, "ad")), wanted)

    def test_a_track_of_one_cell_has_the_step_of_its_pass(self):
        self.assertEqual(list(tracks(1, 1, "aaaaaa")), [(0, 0, 0, 64, 1)])
        self.assertEqual(list(tracks(2, 1, "aa")), [(0, 0, 0, 4, 1), (2, 0, 1, 2, 1)])
        self.assertEqual(list(tracks(1, 2, "ad")), [(0, 0, 0, 2, 1), (2, 1, 0, 1, 1)])

    def test_the_cells_of_every_word_are_those_of_the_definition(self):
        for width, height in SIZES:
            for word in WORDS if width * height < 500 else ("", "a", "d", "adadad", "aaaaaa", "dddddd", "ddaa"):
                got = [(track[0], track[1], columns(track)) for track in tracks(width, height, word)]
                self.assertEqual(got, tracks_by_hand(width, height, word), (width, height, word))

    def test_first_and_step_go_by_the_letter(self):
        for word in WORDS:
            for number, _, first, step, count in tracks(17, 9, word):
                across, _ = steps_by_hand(word, number)
                letter = word[number - 1] if number else ""
                wanted = (across, 2 * across) if letter == "a" else (0, across)
                self.assertEqual((first, step), wanted, word)
                self.assertGreater(count, 0)

    def test_every_cell_lies_in_exactly_one_track(self):
        for width, height in SIZES:
            for word in ("", "aad", "dadada", "aaaaaa", "dddddd"):
                cells = [(x, track[1]) for track in tracks(width, height, word) for x in columns(track)]
                self.assertEqual(sorted(cells), [(x, y) for x in range(width) for y in range(height)])

    def test_passes_without_tracks(self):
        self.assertEqual([track[0] for track in tracks(1, 1, "adadad")], [0])
        self.assertEqual({track[0] for track in tracks(1, 40, "adadad")}, {0, 2, 4, 6})
        self.assertEqual({track[0] for track in tracks(40, 1, "adadad")}, {0, 1, 3, 5})
        self.assertEqual({track[0] for track in tracks(40, 1, "dddddd")}, {0})
        self.assertEqual({track[0] for track in tracks(33, 1, "aaaaaa")}, set(range(7)))
        self.assertEqual({track[0] for track in tracks(32, 1, "aaaaaa")}, {0, 2, 3, 4, 5, 6})

    def test_tracks_are_tuples_of_integers(self):
        for track in tracks(5, 3, "ad"):
            self.assertIs(type(track), tuple)
            self.assertTrue(are_plain_integers(track))


class BoundsTest(unittest.TestCase):
    def test_examples(self):
        self.assertEqual(pass_bounds(3, 2, "a"), [(0, 2), (2, 4)])
        self.assertEqual(pass_bounds(5, 3, "ad"), [(0, 2), (2, 4), (4, 5)])
        self.assertEqual(pass_bounds(5, 3, "ad", 4), [(0, 8), (8, 16), (16, 20)])
        self.assertEqual(pass_bounds(5, 3, "ad", sheets=3), [(0, 6), (6, 12), (12, 15)])

    def test_the_empty_word(self):
        self.assertEqual(pass_bounds(40, 40, ""), [(0, 40)])
        self.assertEqual(pass_bounds(40, 1, "", 4), [(0, 4)])
        self.assertEqual(pass_bounds(1, 40, "", 2), [(0, 80)])

    def test_passes_without_tracks_have_equal_bounds(self):
        self.assertEqual(pass_bounds(1, 1, "adadad", 3), [(0, 3)] + [(3, 3)] * 6)
        self.assertEqual(pass_bounds(1, 3, "ada"), [(0, 2), (2, 2), (2, 3), (3, 3)])
        self.assertEqual(pass_bounds(40, 1, "dd", 2), [(0, 2), (2, 2), (2, 2)])

    def test_the_lanes_of_a_pass_are_those_of_its_tracks(self):
        for width, height in SIZES:
            for word in ("", "a", "d", "adadad", "aaaaaa", "dddddd", "dda"):
                for sheets in range(1, 5):
                    lanes = {}
                    for number, track in enumerate(tracks(width, height, word)):
                        lanes.setdefault(track[0], []).extend(number * sheets + sheet for sheet in range(sheets))
                    before = 0
                    for number, (first, end) in enumerate(pass_bounds(width, height, word, sheets)):
                        self.assertEqual(first, before)
                        self.assertEqual(list(range(first, end)), lanes.get(number, []))
                        before = end
                    self.assertEqual(before, sheets * len(list(tracks(width, height, word))))

    def test_one_pair_for_each_pass(self):
        for word in WORDS:
            got = pass_bounds(3, 5, word, 2)
            self.assertIs(type(got), list)
            self.assertEqual({type(pair) for pair in got}, {tuple})
            self.assertEqual(len(got), len(word) + 1)
            self.assertTrue(are_plain_integers(got))

    def test_a_list_that_was_returned_is_not_kept(self):
        bounds = pass_bounds(3, 2, "a")
        bounds.clear()
        self.assertEqual(pass_bounds(3, 2, "a"), [(0, 2), (2, 4)])
        listed = list(tracks(3, 2, "a"))
        listed[0] = None
        self.assertEqual(next(tracks(3, 2, "a")), (0, 0, 0, 2, 2))


if __name__ == "__main__":
    unittest.main()
