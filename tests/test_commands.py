"""[85] The lines of calls."""

import random
import unittest

from plain import NO_CALLS, random_call
from servedall import commands as c
from servedall.errors import InvalidCommand, ServeError
from servedall.town import Town
from support import ANY, raised

LINES = {
    ("house", "h", 2): "house h 2", ("house", "abcdefgh", 0): "house abcdefgh 0", ("close", "h"): "close h",
    ("price", "h", 10 ** 6 - 1): "price h 999999", ("person", "a", ("h", "i")): "person a h i",
    ("person", "a", ("i", "h")): "person a i h", ("person", "a", ()): "person a", ("leave", "a"): "leave a",
    ("serve", "a", "h", True): "serve a h on", ("serve", "a", "h", False): "serve a h off",
    ("serve", "on", "off", True): "serve on off on", ("person", "all", ("person", "house")): "person all person house",
    ("batch", ()): "all", ("batch", (("leave", "a"),)): "all leave a", ("undo",): "undo", ("redo",): "redo",
    ("batch", (("house", "h", 2), ("person", "a", ()), ("person", "b", ("h",)), ("serve", "b", "h", False))):
        "all house h 2; person a; person b h; serve b h off",
    ("close", "undo"): "close undo", ("leave", "all"): "leave all", ("person", "a", ("a",)): "person a a"}

MISSES = ["", " ", "house", "house h", "house h ", "house h 2 ", " house h 2", "house  h 2", "house h  2", "house h 2 3",
          "house h 02", "house h 00", "house h -1", "house h -0", "house h +2", "house h 2.0", "house h 1_0", "house h two",
          "house h \u0662", "house h \u00b2", "house h 2\n", "house\th\t2", "House h 2", "HOUSE h 2", "house H 2",
          "house abcdefghi 2", "house h1 2", "house 2 h", "house \u00e9 2", "house h, 2", "close", "close ", "close h i", "close h;",
          "close abcdefghi", "price h", "price h x", "price h 01", "price 1", "price", "person", "person ", "person a ",
          "person a h h", "person a h i h", "person a H", "person a  h", "person a, h", "person a h;", "leave", "leave a b",
          "leave ", "serve", "serve a", "serve a h", "serve a h ", "serve a h On", "serve a h yes", "serve a h 1", "serve a h True",
          "serve a h on off", "serve a on", "serve a h on ", "all ", "all;", "all; ", "all  ", "all all", "all undo", "all redo",
          "all leave a;", "all leave a; ", "all leave a;leave b", "all leave a ; leave b", "all leave a;  leave b", "all; leave a",
          "all leave a; leave b;", "all leave a; undo", "all leave a; all", "all leave a, leave b", "all  leave a", "All", "all.",
          "all house h 02; leave a", "all leave a; house h", "leave a; leave b", "undo ", " undo", "undo 1", "Undo", "undo undo",
          "redo ", "redo 1", "undo; redo", "batch", "batch leave a", "calls", "depth", "prices", "open h", "house,h,2",
          "('house', 'h', 2)", "leave a\nleave b", "leave a\n", "\n", "\u0000", "leave\u00a0a", "h", "a"]


class LineTest(unittest.TestCase):

    def test_there_and_back(self):
        for call, line in LINES.items():
            self.assertEqual((c.call_line(call=call), c.call_line(call)), (line, line))
            told = c.read_call(value=line)
            self.assertEqual(told, call)
            self.assertEqual([type(one) for one in told], [type(one) for one in call])
            self.assertEqual(c.read_call(line), call)
        self.assertEqual(len(set(LINES.values())), len(LINES))
        self.assertIs(c.read_call("serve a h on")[3], True)
        self.assertIs(c.read_call("all serve a h off")[1][0][3], False)

    def test_random_calls(self):
        dice = random.Random(1)
        lines = {}
        for _ in range(1500):
            call = random_call(dice)
            line = c.call_line(call)
            self.assertEqual(c.read_call(line), call)
            self.assertEqual(lines.setdefault(line, call), call)
            self.assertRegex(line, r"^[a-z]+( [a-z0-9]+;?)*$")

    def test_great_prices(self):
        for price in (10 ** 12, 10 ** 600, 10 ** 4000 - 1):
            call = ("house", "h", price)
            self.assertEqual(c.read_call(c.call_line(call)), call)
        # No value has so many figures.
        self.assertEqual(raised(c.read_call, "house h " + "9" * 4001)[0], InvalidCommand)
        self.assertEqual(raised(c.read_call, "price h " + "1" * 9000)[0], InvalidCommand)

    def test_misses(self):
        for line in MISSES:
            self.assertEqual(raised(c.read_call, line), (InvalidCommand, None), repr(line))
        for line in LINES.values():
            for at in range(len(line) + 1):
                for sign in (" ", ";", "; ", "\n", "0", "A", "-", ",", "\u0661", "\t"):
                    self.check_line(line[:at] + sign + line[at:])
                self.check_line(line[:at])
                self.check_line(line[at:])
                self.check_line(line[:at] + line[at + 1:])

    def check_line(self, line):
        """A line that is read is the line of what is read."""
        error, call = raised(c.read_call, line)
        if error is None:
            self.assertEqual(c.call_line(call), line)
            self.assertNotEqual(Town().do(call), "call")
        else:
            self.assertIs(error, InvalidCommand)

    def test_swapped_words(self):
        dice = random.Random(2)
        held = 0
        for _ in range(3000):
            words = c.call_line(random_call(dice)).split(" ")
            at, to = dice.randrange(len(words)), dice.randrange(len(words))
            change = dice.choice(("swap", "drop", "twice", "word"))
            if change == "swap":
                words[at], words[to] = words[to], words[at]
            elif change == "drop":
                del words[at]
            elif change == "twice":
                words.insert(at, words[to])
            else:
                words[at] = dice.choice(("on", "off", "all", "undo", "7", "h", "house", "07", "", "serve;", ";"))
            self.check_line(" ".join(words))
            held += raised(c.read_call, " ".join(words))[0] is None
        self.assertGreater(held, 100)

    def test_any_value(self):
        for value in ANY + NO_CALLS + list(LINES):
            if not isinstance(value, str) or value not in LINES.values():
                self.assertEqual(raised(c.read_call, value), (InvalidCommand, None) if value != "undo" else (None, ("undo",)))
        self.assertTrue(issubclass(InvalidCommand, ServeError))

    def test_calls(self):
        for value in NO_CALLS:
            self.assertIs(c.is_call(value), False, value)
        for call in LINES:
            self.assertIs(c.is_call(call), True)


if __name__ == "__main__":
    unittest.main()
