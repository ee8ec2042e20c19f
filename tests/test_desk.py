"""Points 96, 97, 99 to 101 and 104: the desk."""

import time
import unittest

from keptpictures.desk.desk import Desk
from keptpictures.errors import (BadEdit, BadFile, BadLimit, BadPicture, BadPlan, Clash, Coloured, KeepError, NoCell,
                                 NoHead, NoName, NoPlace, NoStep, Stopped, TooLarge, TooMany, Unlike, WrongKind)
from keptpictures.files.plan import even_plan
from keptpictures.files.whole import chunks_of, read_file, read_plan
from keptpictures.files.writer import write_file
from keptpictures.hurts.remains import salvage
from keptpictures.hurts.survey import SummedSurvey
from keptpictures.knowledge.edited import edited
from keptpictures.knowledge.facts import known
from keptpictures.knowledge.knowledge import Knowledge
from keptpictures.pictures.picture import Picture
from keptpictures.pictures.recipe import recipe_of
from keptpictures.planning.cheapest import cheapest
from tests.chunks_by_hand import chunk_by_hand
from tests.commands_by_hand import likely_command
from tests.desk_by_hand import PlainDesk
from tests.files_by_hand import bytes_of
from tests.helpers import chances
from tests.test_writer import EXAMPLE


def all_items(desk):
    return {name: desk.item(name) for name in desk.names}


def laid():
    """Return a desk with a picture p, a file f, knowledge k, and a coloured file c."""
    desk = Desk()
    desk.do(("new", "p", 2, 1, (2,), False), ("edit", "p", ("paint", 1, 0, 1, 1, (3,))),
            ("save", "f", "p", "none", "", 0), ("know", "k", "f"), ("save", "c", "p", "value", "", 0))
    return desk


class DeskTest(unittest.TestCase):
    def require_refused(self, desk, command, error, **attributes):
        before, steps = all_items(desk), desk.steps
        with self.assertRaises(Stopped) as caught:
            desk.do(command)
        self.assertEqual(caught.exception.place, 0)
        cause = caught.exception.__cause__
        self.assertIs(type(cause), error, (command, cause))
        for name, value in attributes.items():
            self.assertEqual(getattr(cause, name), value)
        self.assertEqual((all_items(desk), desk.steps), (before, steps))

    def test_a_fresh_desk(self):
        desk = Desk()
        self.assertEqual((desk.names, desk.steps, desk.limit), ((), 0, 20))
        with self.assertRaises(NoStep):
            desk.undo()
        with self.assertRaises(NoName) as caught:
            desk.item("a")
        self.assertEqual(caught.exception.name, "a")

    def test_new(self):
        desk = Desk()
        self.assertEqual(desk.do(("new", "a", 3, 2, (4, 1), True)), [None])
        self.assertEqual(desk.item("a"), Picture.of((4, 1), [[(0, 0)] * 3] * 2, True))
        self.assertEqual(desk.item(name="a").mask, True)
        desk.do(("new", "a", 40, 40, (16, 16, 16, 16), False))
        self.assertEqual(desk.item("a"), Picture.of((16,) * 4, [[(0,) * 4] * 40] * 40))
        for width, height, depths, mask in ((0, 1, (1,), False), (1, 0, (1,), False), (41, 1, (1,), False),
                                            (1, 41, (1,), False), (-1, 1, (1,), False), (1, 100000, (1,), False),
                                            (1, 1, (), False), (1, 1, (1,) * 5, False), (1, 1, (0,), False),
                                            (1, 1, (17,), False), (1, 1, (-3,), False), (1, 1, (100000,), False),
                                            (1, 1, (1,), True), (1, 1, (1, 2), True), (1, 1, (-100000, 1), True),
                                            (1, 1, (1,) * 6, True), (100000, -100000, (), True)):
            self.require_refused(desk, ("new", "a", width, height, depths, mask), BadPicture)

    def test_edit(self):
        desk = laid()
        edit = ("shift", 0, 1)
        desk.do(("edit", "p", edit), ("edit", "f", edit), ("edit", "k", edit), ("edit", "c", edit))
        self.assertEqual(desk.item("p"), Picture.of((2,), [[(1,), (0,)]]))
        self.assertEqual(read_file(desk.item("f")), desk.item("p"))
        self.assertEqual(desk.item("k"), known(salvage(desk.item("f"))))
        self.assertEqual(read_plan(desk.item("c")).palette, ((1,), (0,)))
        for name in ("p", "f", "k", "c"):
            for wrong in (("shift", 1, 1), ("shift", -1, 1), ("cut", 0, 0, 3, 1), ("cut", 0, 0, 0, 0),
                          ("paint", 0, 0, 1, 1, (4,)), ("paint", 0, 0, 1, 1, ()), ("paint", 100000, 0, 1, 1, (1,)),
                          ("paint", 0, 0, 1, 1, (1,) * 6), ("cut", -100000, -100000, 100000, 100000)):
                self.require_refused(desk, ("edit", name, wrong), BadEdit, place=0)
        desk.do(("keep", "f", 5))
        self.require_refused(desk, ("edit", "f", ("shift", 9, 9)), BadFile, at=5, chunk=0)
        self.require_refused(desk, ("edit", "x", ("shift", 9, 9)), NoName, name="x")

    def test_an_edit_of_knowledge(self):
        desk = Desk()
        desk.do(("new", "p", 3, 2, (2, 1), False), ("save", "f", "p", "none", "", 1), ("drop", "f", 1),
                ("know", "k", "f"))
        told = desk.item("k")
        for edit in (("turn",), ("cut", 1, 0, 2, 2), ("paint", 0, 0, 1, 1, (3, 0)), ("mirror",), ("shift", 0, -1)):
            desk.do(("edit", "k", edit))
            self.assertEqual(desk.item("k"), edited(told, recipe_of((3, 2, (2, 1)), edit)))
            self.assertIsInstance(desk.item("k"), Knowledge)
            desk.undo()

    def test_a_file_with_too_many_colours(self):
        desk = Desk()
        desk.do(("new", "p", 8, 8, (7,), False))
        desk.do(*[("edit", "p", ("paint", k % 8, k // 8, 1, 1, (k,))) for k in range(64)])
        desk.do(("save", "f", "p", "often", "", 0))
        self.require_refused(desk, ("edit", "f", ("paint", 0, 0, 1, 1, (99,))), TooMany, number=65)
        self.require_refused(desk, ("edit", "f", ("paint", 8, 0, 1, 1, (99,))), BadEdit, place=0)
        desk.do(("new", "q", 13, 5, (7,), False))
        desk.do(*[("edit", "q", ("paint", k % 13, k // 13, 1, 1, (k,))) for k in range(65)])
        for order in ("value", "first", "often"):
            self.require_refused(desk, ("save", "f", "q", order, "", 0), TooMany, number=65)
            self.require_refused(desk, ("save", "f", "q", order, "", 4), BadPlan, place=-1)
        desk.do(("save", "f", "q", "none", "", 0))
        self.assertEqual(read_file(desk.item("f")), desk.item("q"))

    def test_lay(self):
        desk = Desk()
        desk.do(("new", "a", 2, 1, (2, 1), True), ("new", "b", 2, 1, (2, 1), True), ("new", "c", 2, 1, (2, 1), False),
                ("edit", "a", ("paint", 0, 0, 1, 1, (3, 1))), ("edit", "b", ("paint", 0, 0, 2, 1, (1, 1))),
                ("lay", "d", "a", "b"))
        self.assertEqual(desk.item("d"), Picture.of((2, 1), [[(3, 1), (1, 1)]], True))
        desk.do(("lay", "a", "b", "a"))
        self.assertEqual(desk.item("a"), Picture.of((2, 1), [[(1, 1), (1, 1)]], True))
        self.require_refused(desk, ("lay", "d", "a", "c"), Unlike)

    def test_save_and_load(self):
        desk = laid()
        picture = desk.item("p")
        for order in ("none", "value", "first", "often"):
            for word, spares in (("", 0), ("ad", 3), ("adadad", 1)):
                desk.do(("save", "g", "p", order, word, spares), ("load", "q", "g"))
                plan = cheapest(picture, orders=(order,), words=(word,), spares=spares)
                self.assertEqual(desk.item("g"), write_file(picture, plan))
                self.assertEqual(desk.item("q"), picture)
        for word, spares in (("x", 0), ("adb", 0), ("aaaaaaa", 0), ("", 4), ("", -1), ("", 100000), ("x", 9)):
            self.require_refused(desk, ("save", "g", "p", "none", word, spares), BadPlan, place=-1)
        desk.do(("keep", "g", 3))
        self.require_refused(desk, ("load", "q", "g"), BadFile, at=3, chunk=0)

    def test_drop_set_and_keep(self):
        desk = laid()
        data = desk.item("f")
        bounds = [place for place, byte in enumerate(data) if byte >= 128] + [len(data)]
        for k in range(3):
            desk.do(("drop", "f", k))
            self.assertEqual(desk.item("f"), data[:bounds[k]] + data[bounds[k + 1]:])
            desk.undo()
        for k in (-1, 3, -100000, 100000):
            self.require_refused(desk, ("drop", "f", k), NoPlace, place=k)
        desk.do(("set", "f", 0, 7), ("drop", "f", 0))
        self.assertEqual(desk.item("f"), (7,) + data[1:bounds[1]] + data[bounds[2]:])
        desk.undo()
        for at, byte in ((0, 0), (len(data) - 1, 255)):
            desk.do(("set", "f", at, byte))
            self.assertEqual((desk.item("f")[at], len(desk.item("f"))), (byte, len(data)))
            desk.undo()
        for at, byte in ((-1, 0), (len(data), 0), (0, 256), (3, -1), (100000, 1000), (-100000, -1)):
            self.require_refused(desk, ("set", "f", at, byte), NoPlace, place=at)
        for n in (0, 1, len(data)):
            desk.do(("keep", "f", n))
            self.assertEqual(desk.item("f"), data[:n])
            desk.undo()
        for n in (-1, len(data) + 1, 100000):
            self.require_refused(desk, ("keep", "f", n), NoPlace, place=n)
        desk.do(("keep", "f", 0))
        self.require_refused(desk, ("drop", "f", 0), NoPlace, place=0)
        self.require_refused(desk, ("set", "f", 0, 0), NoPlace, place=0)
        desk.do(("keep", "f", 0))

    def test_mend(self):
        desk = laid()
        data = desk.item("f")
        for at in range(len(data)):
            byte = (data[at] ^ 3) if data[at] < 128 else 128 + (data[at] + 3) % 128
            desk.do(("set", "f", at, byte), ("mend", "f"))
            self.assertEqual(desk.item("f"), data)
            desk.undo()
        desk.do(("join", "g", "f", "f"), ("set", "g", 4, 9), ("set", "g", 30, 9), ("set", "g", len(data) + 4, 9),
                ("set", "g", len(data) + 5, 8))
        hurt = desk.item("g")
        desk.do(("mend", "g"))
        self.assertEqual(desk.item("g")[:len(data)], data)
        self.assertEqual(desk.item("g")[len(data):][4:6], hurt[len(data):][4:6])
        desk.do(("mend", "f"))
        self.assertEqual(desk.item("f"), data)
        desk.do(("keep", "f", 0), ("mend", "f"))
        self.assertEqual(desk.item("f"), ())

    def test_pieces_of_129_bytes_and_130(self):
        for numbers, is_mended in ((0, True), (1, True), (124, True), (125, True), (126, False), (200, False)):
            chunk = chunk_by_hand(2, (5,) * numbers)
            hurt = (7, 7) + chunk[:-1] + (chunk[-1] ^ 64,) + (200, 3, 9)
            desk = self.desk_with(hurt)
            desk.do(("mend", "f"))
            self.assertEqual(desk.item("f"), (7, 7) + chunk + (200, 3, 9) if is_mended else hurt)

    def test_join(self):
        desk = laid()
        data = desk.item("f")
        desk.do(("join", "g", "f", "c"), ("join", "f", "f", "f"))
        self.assertEqual((desk.item("g"), desk.item("f")), (data + desk.item("c"), data * 2))
        while len(desk.item("f")) <= 10000:
            desk.do(("join", "f", "f", "f"))
        self.require_refused(desk, ("join", "f", "f", "f"), TooLarge)
        desk.do(("keep", "f", 10000), ("join", "f", "f", "f"))
        self.assertEqual(len(desk.item("f")), 20000)
        desk.do(("keep", "g", 1))
        self.require_refused(desk, ("join", "h", "f", "g"), TooLarge)
        desk.do(("keep", "g", 0), ("join", "h", "g", "f"))
        self.assertEqual(len(desk.item("h")), 20000)

    def test_know(self):
        desk = laid()
        self.assertEqual(desk.item("k"), known(salvage(desk.item("f"))))
        self.require_refused(desk, ("know", "x", "c"), Coloured)
        desk.do(("set", "f", 1, 0))
        self.require_refused(desk, ("know", "x", "f"), NoHead)
        desk.do(("keep", "c", 0))
        self.require_refused(desk, ("know", "k", "c"), NoHead)
        desk.do(("new", "q", 13, 5, (1,), False), ("save", "g", "q", "none", "", 0), ("save", "h", "q", "value", "", 0))
        self.require_refused(desk, ("know", "x", "g"), TooLarge)
        self.require_refused(desk, ("know", "x", "h"), Coloured)
        # Two files with one head, whose data chunks contradict each other.
        desk.do(("new", "r", 2, 1, (2,), False), ("save", "g", "r", "none", "", 0), ("save", "h", "p", "none", "", 0),
                ("join", "g", "g", "h"))
        self.require_refused(desk, ("know", "x", "g"), Clash, sheet=0)
        # Nothing is mended.
        desk.do(("save", "g", "r", "none", "", 0), ("set", "g", 17, 99), ("know", "k", "g"))
        self.assertEqual(desk.item("k").count(), 16)

    def test_both_and_common(self):
        desk = laid()
        desk.do(("save", "g", "p", "none", "", 1), ("drop", "g", 1), ("know", "l", "g"), ("keep", "g", 0),
                ("new", "q", 2, 1, (2,), False), ("save", "g", "q", "none", "", 0), ("know", "m", "g"),
                ("new", "r", 2, 1, (1,), False), ("save", "g", "r", "none", "", 0), ("know", "n", "g"))
        k, l, m = [desk.item(name) for name in ("k", "l", "m")]
        desk.do(("both", "x", "k", "l"), ("common", "y", "k", "m"), ("common", "k", "k", "k"))
        self.assertEqual((desk.item("x"), desk.item("y"), desk.item("k")), (k & l, k | m, k))
        self.assertEqual(desk.item("y").facts(0), list((k | m).normal_form(0)))
        self.require_refused(desk, ("both", "x", "k", "m"), Clash, sheet=0)
        for word in ("both", "common"):
            self.require_refused(desk, (word, "x", "k", "n"), Unlike)
        many = Desk()
        many.do(("new", "p", 1, 40, (1,), False), ("save", "f", "p", "none", "", 0), ("know", "k", "f"),
                *[("both", "k", "k", "k")] * 3)
        many.do(("know", "j", "f"), ("both", "l", "k", "j"), ("both", "l", "l", "j"))
        self.assertEqual(len(many.item("l").facts(0)), 400)
        self.require_refused(many, ("both", "l", "l", "j"), TooLarge)

    def test_ask(self):
        desk = laid()
        self.assertEqual(desk.do(("ask", "k", 0, 1, 0), ("ask", "k", 0, 0, 0)), [(3, 4), (0, 4)])
        for z, x, y in ((1, 0, 0), (-1, 1, 0), (0, 2, 0), (0, 0, 1), (0, -1, 0), (100000, -100000, 5), (0, 0, -1)):
            self.require_refused(desk, ("ask", "k", z, x, y), NoCell, x=x, y=y)

    def test_show(self):
        desk = laid()
        self.assertEqual(desk.do(("show", "p"), ("show", "k")), [("0 3",), ("##",)])
        self.assertEqual(desk.do(("show", "f"))[0], tuple(SummedSurvey(salvage(desk.item("f"))).lines()))
        desk.do(("new", "q", 2, 2, (8, 1), True), ("edit", "q", ("paint", 0, 0, 2, 1, (200, 1))))
        self.assertEqual(desk.do(("show", "q")), [("200,1 200,1", "0,0 0,0")])
        desk.do(("keep", "f", 5))
        self.assertEqual(desk.do(("show", "f")), [("no head",)])
        desk.do(("keep", "f", 0))
        self.assertEqual(desk.do(("show", "f")), [("no head",)])

    def test_what_is_shown_of_a_hurt_file(self):
        desk = laid()
        data = desk.item("f")
        desk.do(("set", "f", 17, 9), ("join", "f", "f", "c"))
        lines = desk.do(("show", "f"))[0]
        self.assertEqual(lines[1], f"   2: {12:>6} {data.index(132):>6} none    lost")
        self.assertEqual(lines[-1], "total 7, kept 2, mended 0, idle 4, lost 1")

    def test_what_is_shown_of_knowledge(self):
        desk = Desk()
        desk.do(("new", "p", 2, 3, (2, 1), False), ("save", "f", "p", "none", "", 2))
        # Three rows; the first and the last one are lost, so their samples are known modulo 4 // 2.
        picture = desk.item("p")
        plan = even_plan(picture, spares=2, most=2)
        chunks = list(chunks_of(write_file(picture, plan)))
        data = bytes_of([chunks[k] for k in (0, 2, 4, 5)])
        told = known(salvage(data))
        self.assertEqual(self.show_of(data), ("++", "##", "++", "??", "##", "??"))
        self.assertEqual(told.count(), (2 * 2) ** 2)
        self.assertEqual(self.show_of(bytes_of(chunks[:1])), ("??",) * 6)
        self.assertEqual(self.show_of(bytes_of(chunks)), ("##",) * 6)

    def show_of(self, data):
        """Return what a desk shows of the knowledge of a byte text."""
        desk = self.desk_with(data)
        desk.do(("know", "k", "f"))
        return desk.do(("show", "k"))[0]

    def desk_with(self, data):
        """Return a desk with a byte text f, which is put together by commands."""
        desk = Desk()
        desk.do(("new", "p", 1, 1, (1,), False), ("save", "f", "p", "none", "", 0))
        while len(desk.item("f")) < len(data):
            desk.do(("join", "f", "f", "f"))
        desk.do(("keep", "f", len(data)), *[("set", "f", at, byte) for at, byte in enumerate(data)])
        self.assertEqual(desk.item("f"), data)
        return desk

    def test_forget(self):
        desk = laid()
        for name in ("p", "k", "f"):
            self.assertEqual(desk.do(("forget", name)), [None])
            self.assertNotIn(name, desk.names)
            self.require_refused(desk, ("forget", name), NoName, name=name)
        self.assertEqual(desk.names, ("c",))

    def test_items_that_are_missing(self):
        desk = laid()
        for command, name in ((("edit", "x", ("mirror",)), "x"), (("drop", "x", 0), "x"), (("set", "x", 0, 0), "x"),
                              (("keep", "x", 0), "x"), (("mend", "x"), "x"), (("ask", "x", 0, 0, 0), "x"),
                              (("show", "x"), "x"), (("lay", "x", "y", "z"), "y"), (("lay", "x", "f", "z"), "z"),
                              (("join", "x", "y", "f"), "y"), (("join", "x", "p", "y"), "y"),
                              (("both", "x", "k", "y"), "y"), (("common", "x", "z", "y"), "z"),
                              (("save", "x", "y", "none", "q", 9), "y"),
                              (("load", "x", "y"), "y"), (("know", "x", "y"), "y"), (("load", "x", "x"), "x")):
            self.require_refused(desk, command, NoName, name=name)

    def test_items_of_the_wrong_kind(self):
        desk = laid()
        cases = []
        for name in ("f", "k"):
            cases += [(("lay", "x", "p", name), name), (("lay", "x", name, "p"), name), (("lay", "p", name, "c"), name),
                      (("save", "x", name, "none", "q", 9), name)]
        for name in ("p", "f"):
            cases += [(("both", "x", "k", name), name), (("both", "x", name, "k"), name),
                      (("common", "x", name, "c"), name), (("ask", name, 9, 9, 9), name)]
        for name in ("p", "k"):
            cases += [(("load", "x", name), name), (("drop", name, 99), name), (("set", name, 99, 999), name),
                      (("keep", name, -1), name), (("mend", name), name), (("join", "x", "f", name), name),
                      (("join", "x", name, "f"), name), (("know", "x", name), name)]
        for command, name in cases:
            self.require_refused(desk, command, WrongKind, name=name)
        self.require_refused(desk, ("lay", "x", "f", "y"), NoName, name="y")

    def test_items_are_replaced_under_their_own_name(self):
        desk = laid()
        data, picture = desk.item("f"), desk.item("p")
        desk.do(("load", "f", "f"))
        self.assertEqual(desk.item("f"), picture)
        desk.do(("save", "f", "f", "none", "", 0), ("know", "f", "f"))
        self.assertEqual(desk.item("f"), known(salvage(data)))
        desk.do(("new", "f", 1, 1, (1,), False))
        self.assertEqual((desk.item("f"), desk.names), (Picture.of((1,), [[(0,)]]), ("c", "f", "k", "p")))

    def test_names(self):
        desk = Desk()
        for name in ("b", "abcdefgh", "a", "z", "aa"):
            desk.do(("new", name, 1, 1, (1,), False))
        self.assertEqual(desk.names, ("a", "aa", "abcdefgh", "b", "z"))
        self.assertIs(type(desk.names), tuple)

    def test_many_commands_are_one_step(self):
        desk = Desk()
        outcomes = desk.do(("new", "a", 1, 1, (1,), False), ("show", "a"), ("edit", "a", ("shift", 0, 1)),
                           ("show", "a"))
        self.assertEqual(outcomes, [None, ("0",), None, ("1",)])
        self.assertIs(type(outcomes), list)
        self.assertEqual(desk.steps, 1)
        desk.undo()
        self.assertEqual((desk.names, desk.steps), ((), 0))

    def test_a_do_of_no_commands_is_a_step(self):
        desk = Desk()
        self.assertEqual((desk.do(), desk.steps), ([], 1))
        desk.do(("new", "a", 1, 1, (1,), False))
        desk.do(("show", "a"))
        self.assertEqual(desk.steps, 3)
        desk.undo()
        self.assertEqual(desk.names, ("a",))
        desk.undo()
        self.assertEqual((desk.names, desk.steps), ((), 1))
        desk.undo()
        self.assertEqual(desk.steps, 0)

    def test_when_one_command_is_refused_none_takes_effect(self):
        desk = laid()
        before, steps = all_items(desk), desk.steps
        with self.assertRaises(Stopped) as caught:
            desk.do(("forget", "p"), ("new", "q", 1, 1, (1,), False), ("show", "q"), ("show", "p"), ("forget", "q"))
        self.assertEqual(caught.exception.place, 3)
        self.assertIsInstance(caught.exception, KeepError)
        self.assertIs(type(caught.exception.__cause__), NoName)
        self.assertEqual(caught.exception.__cause__.name, "p")
        self.assertEqual((all_items(desk), desk.steps), (before, steps))

    def test_a_refused_command_leaves_the_undone_steps(self):
        desk = Desk()
        for name in ("a", "b", "c"):
            desk.do(("new", name, 1, 1, (1,), False))
        desk.undo()
        with self.assertRaises(Stopped):
            desk.do(("show", "c"))
        self.assertEqual((desk.names, desk.steps), (("a", "b"), 2))


class LimitTest(unittest.TestCase):
    def stepped(self, many, limit=20):
        desk = Desk()
        desk.set_limit(limit)
        for number in range(many):
            desk.do(("new", "a", 1 + number % 40, 1 + number // 40, (1,), False))
        return desk

    def test_twenty_at_first(self):
        desk = self.stepped(25)
        self.assertEqual((desk.limit, desk.steps), (20, 20))
        for _ in range(20):
            self.assertIsNone(desk.undo())
        self.assertEqual((desk.steps, desk.item("a").width), (0, 5))
        with self.assertRaises(NoStep):
            desk.undo()
        self.assertEqual(desk.item("a").width, 5)

    def test_0_and_100(self):
        desk = self.stepped(3, 0)
        self.assertEqual((desk.limit, desk.steps, desk.item("a").width), (0, 0, 3))
        with self.assertRaises(NoStep):
            desk.undo()
        desk = self.stepped(120, 100)
        self.assertEqual((desk.steps, desk.limit), (100, 100))
        for _ in range(100):
            desk.undo()
        self.assertEqual((desk.item("a").width, desk.item("a").height), (20, 1))
        with self.assertRaises(NoStep):
            desk.undo()

    def test_lowering_is_for_good(self):
        desk = self.stepped(10)
        self.assertIsNone(desk.set_limit(4))
        self.assertEqual((desk.steps, desk.limit), (4, 4))
        desk.set_limit(100)
        self.assertEqual(desk.steps, 4)
        for _ in range(4):
            desk.undo()
        self.assertEqual(desk.item("a").width, 6)
        with self.assertRaises(NoStep):
            desk.undo()
        desk.do()
        self.assertEqual(desk.steps, 1)

    def test_the_limit_is_assigned(self):
        desk = self.stepped(10)
        desk.limit = 3
        self.assertEqual((desk.limit, desk.steps), (3, 3))
        desk.limit = 0
        self.assertEqual((desk.limit, desk.steps), (0, 0))
        desk.limit = 100
        self.assertEqual((desk.limit, desk.steps), (100, 0))
        for number in (-1, 101, 1000, -1000):
            with self.assertRaises(BadLimit) as caught:
                desk.limit = number
            self.assertEqual(caught.exception.number, number)
        self.assertEqual(desk.limit, 100)
        for name in ("names", "steps"):
            with self.assertRaises(AttributeError):
                setattr(desk, name, ())

    def test_bad_limits(self):
        desk = self.stepped(5)
        for number in (-1, 101, 1000, -1000):
            with self.assertRaises(BadLimit) as caught:
                desk.set_limit(number)
            self.assertEqual(caught.exception.number, number)
            self.assertEqual((desk.limit, desk.steps), (20, 5))
        desk.set_limit(number=5)
        self.assertEqual((desk.limit, desk.steps), (5, 5))


class ComparedTest(unittest.TestCase):
    def require_same(self, desk, plain):
        self.assertEqual(all_items(desk), plain.now)
        self.assertEqual((desk.steps, desk.limit), (len(plain.earlier), plain.most))

    def test_with_a_desk_that_is_told_anew(self):
        chance = chances(1)
        refused, done = {}, {}
        for _ in range(40):
            desk, plain = Desk(), PlainDesk()
            front = (("new", "a", 2, 2, (2, 1), True), ("edit", "a", ("paint", 0, 0, 1, 1, (3, 1))),
                     ("save", "b", "a", "none", "", 2), ("know", "c", "b"), ("save", "d", "a", "value", "", 0))
            self.assertEqual(desk.do(*front), plain.do(*front))
            for _ in range(60):
                kind = chance.random()
                if kind < 0.1:
                    if plain.undo():
                        self.assertIsNone(desk.undo())
                    else:
                        with self.assertRaises(NoStep):
                            desk.undo()
                elif kind < 0.13:
                    number = chance.choice((0, 1, 2, 5, 20, 100))
                    plain.set_limit(number)
                    desk.set_limit(number)
                else:
                    commands = [likely_command(chance) for _ in range(chance.choice((0, 1, 1, 1, 1, 2, 3)))]
                    wanted = plain.do(*commands)
                    if isinstance(wanted, tuple):
                        place, error = wanted
                        with self.assertRaises(Stopped) as caught:
                            desk.do(*commands)
                        self.assertEqual(caught.exception.place, place)
                        self.assertEqual(repr(caught.exception.__cause__), repr(error))
                        self.assertEqual(vars(caught.exception.__cause__), vars(error))
                        refused[type(error)] = refused.get(type(error), 0) + 1
                    else:
                        self.assertEqual(desk.do(*commands), wanted)
                        for command in commands:
                            done[command[0]] = done.get(command[0], 0) + 1
                self.require_same(desk, plain)
        self.assertGreaterEqual(len(refused), 10)
        self.assertEqual(len(done), 16)

    def test_the_items_themselves(self):
        desk = laid()
        for name in desk.names:
            self.assertIs(desk.item(name), desk.item(name))
        self.assertIsInstance(desk.item("p"), Picture)
        self.assertIs(type(desk.item("f")), tuple)
        self.assertIsInstance(desk.item("k"), Knowledge)
        before = desk.item("p")
        desk.do(("edit", "p", ("mirror",)))
        self.assertEqual(before, Picture.of((2,), [[(0,), (3,)]]))

    def test_two_desks_share_nothing(self):
        one, other = laid(), laid()
        one.do(("forget", "p"))
        one.set_limit(3)
        self.assertEqual((other.names, other.limit, other.steps), (("c", "f", "k", "p"), 20, 1))
        outcomes = one.do(("show", "f"))
        outcomes.append(1)
        self.assertEqual(len(one.do(("show", "f"))), 1)

    def test_the_bounds_are_answered_soon(self):
        begun = time.perf_counter()
        desk = Desk()
        desk.do(("new", "p", 8, 8, (16, 16, 16, 16), False), ("save", "f", "p", "none", "ad", 3))
        desk.do(*[("edit", "p", ("shift", k % 4, k)) for k in range(300)])
        desk.set_limit(100)
        for k in range(110):
            desk.do(("edit", "p", ("shift", k % 4, 1)))
        self.assertEqual(desk.steps, 100)
        desk.do(("know", "k", "f"), ("show", "k"))
        while len(desk.item("f")) <= 10000:
            desk.do(("join", "f", "f", "f"))
        desk.do(("keep", "f", 10000), ("join", "f", "f", "f"), ("show", "f"), ("mend", "f"), ("drop", "f", 3))
        self.assertLess(time.perf_counter() - begun, 30)

    def test_the_example_file(self):
        desk = Desk()
        desk.do(("new", "a", 2, 1, (1,), False), ("edit", "a", ("paint", 1, 0, 1, 1, (1,))),
                ("save", "b", "a", "none", "", 0))
        self.assertEqual(desk.item("b"), EXAMPLE)


if __name__ == "__main__":
    unittest.main()
