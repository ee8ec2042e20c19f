"""Points 51, 52 and 69: heads and their contents."""

import unittest

from keptpictures.errors import BadContent, BadHead, KeepError
from keptpictures.files.head import Head
from tests.helpers import are_plain_integers, chances


def parts(head):
    return (head.width, head.height, head.depths, head.mask, head.colours, head.word, head.spares)


def filled(content):
    """Return the content, and behind it the numbers that leave most open, up to the end of a head."""
    row = list(content)
    for least in (1, 1, 1, 0)[len(row):]:
        row.append(least)
    row += [1] * (4 + row[2] - len(row))
    row += [0] * (6 + row[2] - len(row))
    row += [0] * (7 + row[2] + row[5 + row[2]] - len(row))
    return tuple(row)


def is_content(content):
    """Tell whether a row of numbers is the content of a head, by what point 51 says of its parts."""
    if len(content) < 7 or len(content) < 7 + content[2]:
        return False
    many, mask = content[2], content[3]
    depths, (colours, length), rest = content[4:4 + many], content[4 + many:6 + many], content[6 + many:]
    if len(rest) != length + 1 or length > 6 or mask > 1 or set(rest[:-1]) - {0, 1} or rest[-1] > 3:
        return False
    if not (1 <= content[0] <= 40 and 1 <= content[1] <= 40 and 1 <= many <= 4):
        return False
    if not all(1 <= depth <= 16 for depth in depths) or colours > 64 or colours > 2 ** sum(depths):
        return False
    return mask == 0 or (many > 1 and depths[-1] == 1)


def refused_at(content):
    """Return the least place such that no content of a head begins so far, the length if it is cut, or None."""
    for at in range(len(content)):
        whole = filled(content[:at + 1])
        if not is_content(whole) or len(whole) < at + 1:
            return at
    return None if is_content(content) else len(content)


class MakingTest(unittest.TestCase):
    def refused(self, *arguments, **named):
        with self.assertRaises(BadHead) as caught:
            Head(*arguments, **named)
        self.assertIsInstance(caught.exception, KeepError)

    def test_the_parts_are_what_was_passed(self):
        head = Head(3, 2, (8, 1), True, colours=5, word="ad", spares=2)
        self.assertEqual(parts(head), (3, 2, (8, 1), True, 5, "ad", 2))
        self.assertEqual(head.moduli, (5,))

    def test_parts_that_are_left_out(self):
        head = Head(3, 2, (8,))
        self.assertEqual(parts(head), (3, 2, (8,), False, 0, "", 0))
        self.assertIs(head.mask, False)
        named = Head(width=3, height=2, depths=(8, 1), mask=True)
        self.assertEqual(parts(named), (3, 2, (8, 1), True, 0, "", 0))

    def test_the_last_three_parts_are_passed_by_name_alone(self):
        with self.assertRaises(TypeError):
            Head(3, 2, (8,), False, 5)

    def test_depths_may_be_a_list_that_is_not_kept(self):
        depths = [4, 1]
        head = Head(1, 1, depths, True)
        self.assertEqual(head.depths, (4, 1))
        depths.append(20)
        self.assertEqual((head.depths, head.moduli), ((4, 1), (16, 2)))
        self.assertEqual(depths, [4, 1, 20])

    def test_moduli(self):
        self.assertEqual(Head(1, 1, (1, 16, 3)).moduli, (2, 65536, 8))
        self.assertEqual(Head(1, 1, (1, 16, 3), colours=1).moduli, (1,))
        self.assertEqual(Head(1, 1, (16, 1), True, colours=64).moduli, (64,))
        self.assertEqual(Head(1, 1, (16, 1), True).moduli, (65536, 2))
        self.assertTrue(are_plain_integers(Head(1, 1, (1, 16, 3)).moduli))

    def test_widths_and_heights(self):
        for size in (1, 2, 39, 40):
            self.assertEqual(Head(size, 1, (1,)).width, size)
            self.assertEqual(Head(1, size, (1,)).height, size)
        for size in (-100, -1, 0, 41, 100, 100000):
            self.refused(size, 1, (1,))
            self.refused(1, size, (1,))

    def test_depths(self):
        for depths in ((1,), (16,), (1, 16), (16, 1, 16), (1, 2, 3, 4), (16, 16, 16, 16)):
            self.assertEqual(Head(1, 1, depths).depths, depths)
        for depths in ((), (0,), (17,), (-1,), (-100,), (100000,), (1, 0), (1, 1, 17), (1,) * 5, (1,) * 6,
                       (1, 1, 1, 1, 0)):
            self.refused(1, 1, depths)
            self.refused(1, 1, depths, colours=1)

    def test_masks(self):
        for depths in ((1, 1), (16, 1), (3, 3, 1), (2, 3, 4, 1)):
            self.assertIs(Head(1, 1, depths, True).mask, True)
        for depths in ((1,), (1, 2), (1, 16), (1, 1, 2), (1, 1, 1, 16)):
            self.refused(1, 1, depths, True)
            self.assertIs(Head(1, 1, depths, False).mask, False)

    def test_colours(self):
        for depths, most in (((1,), 2), ((2,), 4), ((1, 1), 4), ((5,), 32), ((2, 3), 32), ((6,), 64), ((7,), 64),
                             ((16, 16, 16, 16), 64), ((1, 1, 1, 1), 16)):
            for colours in range(most + 1):
                self.assertEqual(Head(1, 1, depths, colours=colours).colours, colours)
            for colours in (-100, -1, most + 1, 65, 100000):
                self.refused(1, 1, depths, colours=colours)

    def test_words(self):
        for word in ("", "a", "d", "ad", "aaaaaa", "dddddd", "adadad"):
            self.assertEqual(Head(1, 1, (1,), word=word).word, word)
        for word in ("b", "z", "ab", "aaaaaaa", "ddddddd", "adadadadad", "zzzzzzz"):
            self.refused(1, 1, (1,), word=word)

    def test_spares(self):
        for spares in range(4):
            self.assertEqual(Head(1, 1, (1,), spares=spares).spares, spares)
        for spares in (-100, -1, 4, 100, 100000):
            self.refused(1, 1, (1,), spares=spares)

    def test_equal_heads_have_all_seven_parts_equal(self):
        def made(width=2, height=2, depths=(2, 1), mask=False, colours=0, word="", spares=0):
            return Head(width, height, depths, mask, colours=colours, word=word, spares=spares)

        self.assertTrue(made() == made())
        self.assertFalse(made() != made())
        self.assertTrue(made(depths=[2, 1]) == made(depths=(2, 1)))
        others = (made(width=3), made(height=3), made(depths=(1, 2)), made(depths=(2, 1, 1)), made(mask=True),
                  made(colours=1), made(word="a"), made(word="d"), made(spares=1), made(word="ad"), made(word="da"))
        for place, other in enumerate(others):
            self.assertFalse(made() == other)
            self.assertTrue(made() != other)
            for later in others[place + 1:]:
                self.assertFalse(later == other)

    def test_a_head_equals_nothing_but_heads(self):
        head = Head(2, 1, (1,))
        for other in (None, 0, (), head.content(), parts(head), "head"):
            self.assertFalse(head == other)
            self.assertTrue(head != other)


class ContentTest(unittest.TestCase):
    def test_the_example_of_the_document(self):
        self.assertEqual(Head(2, 1, (1,)).content(), (2, 1, 1, 0, 1, 0, 0, 0))

    def test_all_parts(self):
        head = Head(40, 7, (16, 3, 1), True, colours=64, word="adda", spares=3)
        self.assertEqual(head.content(), (40, 7, 3, 1, 16, 3, 1, 64, 4, 0, 1, 1, 0, 3))
        self.assertTrue(are_plain_integers(head.content()))
        self.assertIs(type(head.content()), tuple)

    def test_the_head_of_a_content(self):
        head = Head.of((40, 7, 3, 1, 16, 3, 1, 64, 4, 0, 1, 1, 0, 3))
        self.assertEqual(parts(head), (40, 7, (16, 3, 1), True, 64, "adda", 3))
        self.assertIs(head.mask, True)
        self.assertIs(type(head.depths), tuple)
        plain = Head.of(content=(2, 1, 1, 0, 1, 0, 0, 0))
        self.assertEqual(parts(plain), (2, 1, (1,), False, 0, "", 0))
        self.assertIs(plain.mask, False)
        self.assertTrue(are_plain_integers((plain.width, plain.depths, plain.colours, plain.spares, plain.moduli)))

    def test_both_ways(self):
        chance = chances(52)
        for _ in range(200):
            depths = [chance.randint(1, 16) for _ in range(chance.randint(1, 4))]
            mask = len(depths) > 1 and chance.random() < 0.5
            if mask:
                depths[-1] = 1
            word = "".join(chance.choice("ad") for _ in range(chance.randint(0, 6)))
            head = Head(chance.randint(1, 40), chance.randint(1, 40), depths, mask, word=word,
                        colours=chance.randint(0, min(64, 2 ** sum(depths))), spares=chance.randint(0, 3))
            self.assertTrue(is_content(head.content()))
            self.assertTrue(Head.of(head.content()) == head)
            self.assertEqual(parts(Head.of(head.content())), parts(head))


class RefusedContentTest(unittest.TestCase):
    CONTENTS = (
        (2, 1, 1, 0, 1, 0, 0, 0),
        (40, 40, 4, 1, 16, 2, 3, 1, 64, 6, 0, 1, 1, 0, 1, 0, 3),
        (1, 40, 2, 0, 1, 16, 64, 1, 1, 2),
        (7, 7, 2, 1, 1, 1, 4, 2, 0, 0, 1),
        (1, 1, 1, 0, 2, 4, 0, 0),
    )

    def check(self, content):
        at = refused_at(content)
        if at is None:
            self.assertEqual(Head.of(content).content(), content)
            return
        with self.assertRaises(BadContent) as caught:
            Head.of(content)
        self.assertEqual(caught.exception.at, at, content)
        self.assertIs(type(caught.exception.at), int)
        self.assertIsInstance(caught.exception, KeepError)

    def refused(self, content, at):
        with self.assertRaises(BadContent) as caught:
            Head.of(content)
        self.assertEqual(caught.exception.at, at, content)

    def test_cut_contents(self):
        self.refused((), 0)
        for content in self.CONTENTS:
            for end in range(len(content)):
                self.refused(content[:end], end)

    def test_longer_contents(self):
        for content in self.CONTENTS:
            for rest in ((0,), (1,), (127, 5), content):
                self.refused(content + rest, len(content))

    def test_every_number_at_every_place(self):
        for content in self.CONTENTS:
            for place in range(len(content)):
                for number in range(128):
                    self.check(content[:place] + (number,) + content[place + 1:])

    def test_a_mask_needs_two_depths(self):
        self.refused((1, 1, 1, 1, 1, 0, 0, 0), 3)

    def test_the_last_depth_below_a_mask_is_1(self):
        self.refused((1, 1, 2, 1, 5, 2, 0, 0, 0), 5)
        self.refused((1, 1, 3, 1, 5, 2, 16, 0, 0, 0), 6)

    def test_there_are_at_most_as_many_colours_as_fit(self):
        self.refused((1, 1, 1, 0, 1, 3, 0, 0), 5)
        self.refused((1, 1, 2, 0, 2, 3, 33, 0, 0), 6)
        self.refused((1, 1, 1, 0, 16, 65, 0, 0), 5)

    def test_chosen_contents(self):
        chance = chances(69)
        for _ in range(600):
            content = list(chance.choice(self.CONTENTS))
            for _ in range(chance.randint(1, 3)):
                number = chance.choice((0, 1, 2, 3, 4, 6, 7, 16, 17, 40, 41, 64, 65, 127))
                content[chance.randrange(len(content))] = number
            if chance.random() < 0.3:
                del content[chance.randrange(len(content))]
            self.check(tuple(content))


if __name__ == "__main__":
    unittest.main()
