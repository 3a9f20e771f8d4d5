"""[10] The text of a table."""

import itertools
import random
import unittest

from servedall.errors import InvalidText
from servedall.tables import Table, is_table, left, table_of
from servedall.tabletext import read_table, table_text
from support import ANY, check_call, raised, some_tables, tables_of_size

TOWN = table_of(("ann", "bob", "cy"), ("x", "y"), (("bob", "y"), ("ann", "x"), ("ann", "y")))


TEXTS = [table_text(table) for many in range(3) for number in range(3) for table in tables_of_size(many, number)]


class TextTest(unittest.TestCase):

    def test_example(self):
        self.assertEqual(table_text(TOWN), "houses x y\nann x y\nbob y\ncy")
        self.assertEqual(read_table("houses\ncy"), left(TOWN, ("cy",), ()))

    def test_there_and_back(self):
        texts = {}
        for table in itertools.chain(some_tables(1, 80), tables_of_size(2, 2), tables_of_size(0, 2)):
            text = check_call(self, table_text, table=table)
            self.assertEqual(check_call(self, read_table, value=text), table)
            self.assertEqual(texts.setdefault(text, table), table)

    def test_edges(self):
        for table, text in ((Table((), (), ()), "houses"), (Table(("houses",), (), ()), "houses\nhouses"),
                            (Table((), ("houses",), ()), "houses houses"), (Table(("a",), ("a",), ()), "houses a\na")):
            self.assertEqual(table_text(table), text)
            self.assertEqual(read_table(text), table)

    def test_sixteen(self):
        names = tuple(a + b for a, b in itertools.product("abcd", "wxyz"))
        table = table_of(names, names, itertools.product(names, names))
        self.assertEqual(read_table(table_text(table)), table)

    def test_no_string(self):
        for value in ANY:
            error, kept = raised(read_table, value)
            self.assertEqual((error, kept), (InvalidText, 0 if isinstance(value, str) else -1))

    def test_first_wrong_line(self):
        for text, at in (("", 0), ("house", 0), ("houses ", 0), (" houses", 0), ("houses  x", 0), ("houses x x", 0),
                         ("houses y x", 0), ("houses X", 0), ("houses abcdefghi", 0), ("houses\t", 0), ("Houses", 0),
                         ("houses x\n", 1), ("houses x\nann x\n", 2), ("houses x\nann y", 1), ("houses x\nann x x", 1),
                         ("houses x y\nann y x", 1), ("houses x\nann  x", 1), ("houses x\nann x ", 1),
                         ("houses x\nann\nann", 2), ("houses x\nbob\nann x", 2), ("houses x\n\nann", 1),
                         ("houses x\nA", 1), ("houses x\nA x", 1), ("houses x\n1 x", 1), ("houses x\r\nann", 0), ("houses x\nann x\r", 1), ("x\nann", 0),
                         ("houses x\nzzzzzzzz\nzzzzzzzz", 2), ("houses\nann x\nbob", 1), ("houses\n x", 1)):
            self.assertEqual(raised(read_table, text), (InvalidText, at), text)

    def test_changed_texts(self):
        dice = random.Random(2)
        for _ in range(400):
            text = list(dice.choice(TEXTS))
            at = dice.randrange(len(text) + 1)
            text[at:at + dice.randrange(3)] = dice.choice(("", " ", "\n", "a", "y", "z", "ab"))
            text = "".join(text)
            error, kept = raised(read_table, text)
            if error is None:
                self.assertTrue(is_table(kept))
                self.assertEqual(table_text(kept), text)
            else:
                lines = text.split("\n")
                self.assertEqual(error, InvalidText)
                # The lines ahead are a text of a table; with this one they are none.
                if kept > 0:
                    self.assertEqual(raised(read_table, "\n".join(lines[:kept]))[0], None)
                self.assertEqual(raised(read_table, "\n".join(lines[:kept + 1])), (InvalidText, kept))


if __name__ == "__main__":
    unittest.main()
