"""Point 98: commands in written form, and read back."""

import unittest

from keptpictures.desk.wording import read_command, write_command
from keptpictures.errors import BadCommand, KeepError
from tests.commands_by_hand import SAMPLES, any_command
from tests.helpers import chances

PRINTABLE = [chr(code) for code in range(32, 127) if chr(code) != "%"]

WRITTEN = (
    (("new", "a", 2, 1, (1, 8), False), "new a 2 1 1,8 open"),
    (("new", "abcdefgh", -5, 100000, (), True), "new abcdefgh -5 100000 - mask"),
    (("new", "z", 0, 0, (0, -1, 16, -100000, 5, 100000), True), "new z 0 0 0,-1,16,-100000,5,100000 mask"),
    (("edit", "a", ("paint", 0, 0, 2, 1, (1, 200))), "edit a paint 0 0 2 1 1,200"),
    (("edit", "a", ("paint", -1, 0, -100000, 1, ())), "edit a paint -1 0 -100000 1 -"),
    (("edit", "a", ("shift", 3, -65535)), "edit a shift 3 -65535"),
    (("edit", "a", ("shift", -100000, 65535)), "edit a shift -100000 65535"),
    (("edit", "a", ("mirror",)), "edit a mirror"),
    (("edit", "edit", ("flip",)), "edit edit flip"),
    (("edit", "a", ("turn",)), "edit a turn"),
    (("edit", "a", ("cut", 1, 2, 3, -4)), "edit a cut 1 2 3 -4"),
    (("lay", "a", "b", "c"), "lay a b c"),
    (("save", "b", "a", "none", "", 1), "save b a none - 1"),
    (("save", "b", "a", "often", "abcdefghij", -3), "save b a often abcdefghij -3"),
    (("save", "b", "a", "value", "ad", 0), "save b a value ad 0"),
    (("save", "first", "value", "first", "first", 0), "save first value first first 0"),
    (("load", "a", "b"), "load a b"),
    (("drop", "a", -7), "drop a -7"),
    (("set", "a", 12, 255), "set a 12 255"),
    (("keep", "a", 100000), "keep a 100000"),
    (("mend", "mend"), "mend mend"),
    (("join", "a", "b", "b"), "join a b b"),
    (("know", "a", "b"), "know a b"),
    (("both", "a", "b", "c"), "both a b c"),
    (("common", "a", "b", "c"), "common a b c"),
    (("ask", "a", 0, -1, 2), "ask a 0 -1 2"),
    (("show", "a"), "show a"),
    (("forget", "a"), "forget a"),
)


class WordingTest(unittest.TestCase):
    def require_refused(self, line):
        with self.assertRaises(BadCommand, msg=repr(line)) as caught:
            read_command(line)
        self.assertEqual(caught.exception.line, 0)

    def test_written_and_read_back(self):
        for command, line in WRITTEN:
            self.assertEqual(write_command(command), line)
            told = read_command(line)
            self.assertEqual(told, command)
            self.assertEqual(repr(told), repr(command))
        self.assertEqual(write_command(command=WRITTEN[0][0]), WRITTEN[0][1])
        self.assertEqual(read_command(line=WRITTEN[0][1]), WRITTEN[0][0])
        self.assertIs(BadCommand.__bases__[0], KeepError)

    def test_all_words_are_there(self):
        self.assertEqual({command[0] for command, _ in WRITTEN}, {command[0] for command in SAMPLES})

    def test_any_commands(self):
        chance = chances(1)
        lines = {}
        for _ in range(3000):
            command = any_command(chance)
            line = write_command(command)
            self.assertLessEqual(len(line), 200)
            self.assertEqual(repr(read_command(line)), repr(command))
            self.assertEqual(lines.setdefault(line, command), command)

    def test_no_commands(self):
        for line in ("", " ", "a", "new", "edit", "edit a", "edit a ", "new a", "undo", "do", "New a 1 1 1 open", "-",
                     "show", "show ", "show  a", " show a", "show a ", "show a b", "show\ta", "show a\n", "\nshow a",
                     "show\na", "show a\nshow a", "show,a", "SHOW a", "shows a", "sho a", "show 1", "show -", "show A",
                     "show aB", "show a1", "show abcdefghi", "forget", "mend a b", "keep a", "keep a 1 1", "drop a",
                     "set a 1", "set a 1 2 3", "ask a 0 0", "ask a 0 0 0 0", "lay a b", "lay a b c d", "load a",
                     "know a b c", "edit a mirror 1", "edit a paint 0 0 1 1", "edit a paint 0 0 1 1 1 1",
                     "edit a cut 0 0 1", "edit a cut 0 0 1 1 1", "edit a shift 0", "edit a shift 0 0 0", "edit a spin",
                     "edit mirror", "edit a b mirror", "edit A mirror", "edit a Mirror", "edit a  mirror", "edit a -"):
            self.require_refused(line)

    def test_numbers(self):
        for number in ("0", "1", "-1", "100000", "-100000", "99999"):
            self.assertEqual(read_command("keep a " + number), ("keep", "a", int(number)))
        for text in ("", "-", "--1", "+1", "01", "-01", "00", "-0", "1.0", "1e3", "0x1", "1_0", "a", "1-", "100001",
                     "-100001", "999999999999999999999999", "1,1", "1,", ",1", " 1", "1a", "'1'", "1\n", "\n1", "_1"):
            for front in ("keep a ", "set a 0 ", "ask a 1 2 ", "edit a cut 0 0 0 ", "save a b none - "):
                self.require_refused(front + text)

    def test_shifts_have_their_own_bound(self):
        for amount in (65535, -65535, 0):
            self.assertEqual(read_command(f"edit a shift 100000 {amount}"), ("edit", "a", ("shift", 100000, amount)))
        for amount in (65536, -65536, 100000, -100000):
            self.require_refused(f"edit a shift 0 {amount}")
        self.require_refused("edit a shift 100001 0")

    def test_depths_and_colours(self):
        for text, numbers in (("-", ()), ("0", (0,)), ("-5", (-5,)), ("1,2,3,4,5,6", (1, 2, 3, 4, 5, 6)),
                              ("-1,-1", (-1, -1)), ("100000,-100000", (100000, -100000))):
            self.assertEqual(read_command(f"new a 1 1 {text} open"), ("new", "a", 1, 1, numbers, False))
            edit = ("paint", 0, 0, 1, 1, numbers)
            self.assertEqual(read_command(f"edit a paint 0 0 1 1 {text}"), ("edit", "a", edit))
        for text in ("", ",", "1,", ",1", "1,,2", "1,2,3,4,5,6,7", "01", "1,+2", "--", "-,-", "1,-", "1;2", "100001",
                     "0,-0", "(1,)", "1, 2"):
            self.require_refused(f"new a 1 1 {text} open")
            self.require_refused(f"edit a paint 0 0 1 1 {text}")

    def test_masks_orders_and_words(self):
        for text in ("", "True", "False", "Mask", "closed", "0", "-", "mask "):
            self.require_refused("new a 1 1 1 " + text)
        for text in ("", "None", "any", "-", "a", "values", "0"):
            self.require_refused(f"save a b {text} - 0")
        for text in ("a", "z", "dadada", "abcdefghij"):
            self.assertEqual(read_command(f"save a b none {text} 0"), ("save", "a", "b", "none", text, 0))
        for text in ("", "--", "A", "a1", "abcdefghijk", "a-", "0"):
            self.require_refused(f"save a b none {text} 0")

    def test_names(self):
        for name in ("a", "z", "abcdefgh", "new", "none", "mask", "open"):
            self.assertEqual(read_command("show " + name), ("show", name))
        for name in ("", "abcdefghi", "A", "a1", "1", "-", "a-b", "a,b", "a_b", "a.b", "a'", "~"):
            for front in ("show ", "load a ", "join a b ", "edit "):
                self.require_refused(front + name + (" flip" if front == "edit " else ""))

    def test_a_sign_changed_left_out_or_added(self):
        chance = chances(2)
        for command, line in WRITTEN:
            for _ in range(60):
                at = chance.randint(0, len(line))
                end = at + chance.randint(0, 1)
                other = line[:at] + chance.choice(PRINTABLE + ["\n", "", " ", "-", "0"]) + line[end:]
                try:
                    told = read_command(other)
                except BadCommand as caught:
                    self.assertEqual(caught.line, 0)
                else:
                    self.assertEqual(write_command(told), other)

    def test_any_strings(self):
        chance = chances(3)
        signs = PRINTABLE + ["\n"]
        for _ in range(500):
            self.require_refused("".join(chance.choice(signs) for _ in range(chance.randint(0, 200))))
        self.require_refused("a" * 200)
        self.require_refused(" " * 200)
        self.require_refused("keep a " + "9" * 193)
        self.require_refused("new a 1 1 " + "1," * 94 + "1 open")


if __name__ == "__main__":
    unittest.main()
