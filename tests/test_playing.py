"""Points 102 and 103: texts of commands, played on a desk."""

import time
import unittest

from keptpictures.desk.desk import Desk
from keptpictures.desk.playing import play
from keptpictures.desk.wording import read_command, write_command
from keptpictures.errors import BadCommand, NoStep
from tests.commands_by_hand import any_command, likely_command
from tests.desk_by_hand import PlainDesk
from tests.helpers import chances


def all_items(desk):
    return {name: desk.item(name) for name in desk.names}


def some_text(chance, many):
    """Return the lines of a text in which some commands are done and some are refused."""
    front = [("new", "a", 2, 2, (2, 1), True), ("save", "b", "a", "none", "", 1), ("know", "c", "b"), ("show", "c")]
    commands = front + [likely_command(chance) for _ in range(many - len(front))]
    return [write_command(command) for command in commands]


def entry_by_hand(plain, command):
    told = plain.do(command)
    return ("refused",) if isinstance(told, tuple) else ("done", told[0])


class PlayTest(unittest.TestCase):
    def test_the_example_of_the_document(self):
        told = play(Desk(), "new a 2 1 1 open\nedit a paint 0 0 1 1 1\nshow a\nload b a")
        self.assertEqual(told, [("done", None), ("done", None), ("done", ("1 0",)), ("refused",)])
        self.assertIs(type(told), list)

    def test_no_commands(self):
        desk = Desk()
        self.assertEqual(play(desk, ""), [])
        self.assertEqual((desk.names, desk.steps), ((), 0))
        self.assertEqual(play(desk=desk, text="show a"), [("refused",)])
        self.assertEqual(desk.steps, 0)

    def test_each_command_is_a_step(self):
        desk = Desk()
        told = play(desk, "new a 1 1 1 open\nshow b\nshow a\nforget a\nforget a\nnew b 1 1 2 open")
        self.assertEqual(told, [("done", None), ("refused",), ("done", ("0",)), ("done", None), ("refused",),
                                ("done", None)])
        self.assertEqual((desk.steps, desk.names), (4, ("b",)))
        desk.undo()
        self.assertEqual(desk.names, ())
        desk.undo()
        self.assertEqual(desk.names, ("a",))
        for _ in range(2):
            desk.undo()
        with self.assertRaises(NoStep):
            desk.undo()

    def test_the_earliest_line_that_cannot_be_read(self):
        for lines, line in ((["no"], 0), (["show a", "no", "neither"], 1), (["", "show a"], 0), (["show a", ""], 1),
                            (["", ""], 0), (["show a", "", "show a"], 1), (["show a", "show a "], 1),
                            (["new a 1 1 1 open"] * 59 + ["new a 1 1 1 Open"], 59), ([" "], 0)):
            desk = Desk()
            desk.do(("new", "z", 1, 1, (1,), False))
            with self.assertRaises(BadCommand) as caught:
                play(desk, "\n".join(lines))
            self.assertEqual(caught.exception.line, line)
            self.assertEqual((desk.names, desk.steps), (("z",), 1))

    def test_nothing_is_done_before_all_is_read(self):
        desk = Desk()
        with self.assertRaises(BadCommand) as caught:
            play(desk, "new a 1 1 1 open\nnew b 1 1 1 open\nnew c 1 1 1 closed")
        self.assertEqual((caught.exception.line, desk.names, desk.steps), (2, (), 0))

    def test_with_a_desk_that_is_told_anew(self):
        chance = chances(1)
        kinds = {"done": 0, "refused": 0}
        for _ in range(40):
            lines = some_text(chance, 30)
            desk, plain = Desk(), PlainDesk()
            number = chance.choice((0, 5, 20, 100))
            desk.limit = number
            plain.set_limit(number)
            told = play(desk, "\n".join(lines))
            self.assertEqual(told, [entry_by_hand(plain, read_command(line)) for line in lines])
            for entry in told:
                kinds[entry[0]] += 1
            self.assertEqual((all_items(desk), desk.steps), (plain.now, len(plain.earlier)))
        self.assertGreater(min(kinds.values()), 200)

    def test_a_text_cut_at_any_line_feed(self):
        chance = chances(2)
        for _ in range(6):
            lines = some_text(chance, 14)
            whole = Desk()
            told = play(whole, "\n".join(lines))
            for cut in range(1, len(lines)):
                desk = Desk()
                entries = play(desk, "\n".join(lines[:cut])) + play(desk, "\n".join(lines[cut:]))
                self.assertEqual(entries, told)
                self.assertEqual((all_items(desk), desk.steps), (all_items(whole), whole.steps))

    def test_undoing_leads_back(self):
        chance = chances(3)
        for _ in range(10):
            lines = some_text(chance, 18)
            desk, states = Desk(), [{}]
            for line in lines:
                if play(desk, line) != [("refused",)]:
                    states.append(all_items(desk))
            self.assertEqual(desk.steps, len(states) - 1)
            for state in reversed(states[:-1]):
                desk.undo()
                self.assertEqual(all_items(desk), state)

    def test_60_commands(self):
        chance = chances(4)
        begun = time.perf_counter()
        desk = Desk()
        lines = some_text(chance, 60)
        self.assertEqual(len(play(desk, "\n".join(lines))), 60)
        self.assertLessEqual(desk.steps, 20)
        lines = [write_command(any_command(chance)) for _ in range(60)]
        self.assertEqual(len(play(Desk(), "\n".join(lines))), 60)
        self.assertLess(time.perf_counter() - begun, 20)

    def test_lists_are_not_kept(self):
        desk = Desk()
        play(desk, "new a 1 1 1 open").append(1)
        self.assertEqual(play(desk, "show a"), [("done", ("0",))])


if __name__ == "__main__":
    unittest.main()
