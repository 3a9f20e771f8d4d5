"""[70] Changes of a table with prices."""

import random
import unittest

from servedall import deeds as d
from servedall.errors import InvalidSize, NoName, Refused
from servedall.tables import Table, is_table, serves, table_of
from support import ANY, check_call, raised, random_prices, some_tables

TOWN = table_of(("b", "d"), ("v", "x"), [("b", "v"), ("d", "v"), ("d", "x")])
EMPTY = Table((), (), ())
NO_NAMES = ("", "A", "abcdefghi", 1, None, True, ("c",), ["c"], "c d", "\u00e9", EMPTY)


class PersonTest(unittest.TestCase):

    def test_put(self):
        for name, people in (("a", ("a", "b", "d")), ("c", ("b", "c", "d")), ("e", ("b", "d", "e")),
                             ("x", ("b", "d", "x"))):
            for houses in ((), ["x"], ("x", "v", "x"), ["v", "x"]):
                pairs = [(name, house) for house in houses]
                self.assertEqual(check_call(self, d.person_put, table=TOWN, prices=(2, 3), person=name, houses=houses),
                                 (table_of(people, ("v", "x"), list(TOWN.pairs) + pairs), (2, 3)))

    def test_put_errors(self):
        for wrong in NO_NAMES:
            self.assertEqual(raised(d.person_put, TOWN, (2, 3), wrong, ()), (InvalidSize, "person"))
        self.assertEqual(raised(d.person_put, TOWN, (2, 3), "b", ("x",)), (Refused, "name"))

    def test_gone(self):
        self.assertEqual(check_call(self, d.person_gone, table=TOWN, prices=(2, 3), person="d"),
                         (Table(("b",), ("v", "x"), (("b", "v"),)), (2, 3)))
        for wrong in ("a", "v", "x") + NO_NAMES:
            error, kept = raised(d.person_gone, TOWN, (2, 3), wrong)
            self.assertIs(error, NoName)
            self.assertIs(kept, wrong)


class HouseTest(unittest.TestCase):

    def test_put(self):
        for name, houses, prices in (("a", ("a", "v", "x"), (7, 2, 3)), ("w", ("v", "w", "x"), (2, 7, 3)),
                                     ("y", ("v", "x", "y"), (2, 3, 7)), ("b", ("b", "v", "x"), (7, 2, 3))):
            for people in ((), ["d"], ("d", "b", "d")):
                pairs = [(person, name) for person in people]
                self.assertEqual(check_call(self, d.house_put, table=TOWN, prices=(2, 3), house=name, people=people,
                                            price=7),
                                 (table_of(("b", "d"), houses, list(TOWN.pairs) + pairs), prices))
        self.assertEqual(d.house_put(EMPTY, (), "x", (), 0), (Table((), ("x",), ()), (0,)))

    def test_put_errors(self):
        for wrong in NO_NAMES:
            self.assertEqual(raised(d.house_put, TOWN, (2, 3), wrong, (), -1), (InvalidSize, "house"))
        self.assertEqual(raised(d.house_put, TOWN, (2, 3), "x", (), -1), (Refused, "name"))
        for wrong in (-1, None, True, "1", (1, 1), [], EMPTY):
            self.assertEqual(raised(d.house_put, TOWN, (2, 3), "w", (), wrong), (InvalidSize, "price"))

    def test_gone(self):
        self.assertEqual(check_call(self, d.house_gone, table=TOWN, prices=(2, 3), house="v"),
                         (Table(("b", "d"), ("x",), (("d", "x"),)), (3,)))
        self.assertEqual(d.house_gone(TOWN, (2, 3), "x")[1], (2,))
        for wrong in ("a", "b", "d") + NO_NAMES:
            error, kept = raised(d.house_gone, TOWN, (2, 3), wrong)
            self.assertIs(error, NoName)
            self.assertIs(kept, wrong)

    def test_price(self):
        self.assertEqual(check_call(self, d.price_put, table=TOWN, prices=(2, 3), house="v", price=0), (TOWN, (0, 3)))
        self.assertEqual(d.price_put(TOWN, (2, 3), "x", 10 ** 6), (TOWN, (2, 10 ** 6)))
        self.assertEqual(raised(d.price_put, TOWN, (2, 3), "b", -1), (NoName, "b"))
        for wrong in (-1, None, False, "1", (1, 1), []):
            self.assertEqual(raised(d.price_put, TOWN, (2, 3), "x", wrong), (InvalidSize, "price"))


class AllTest(unittest.TestCase):

    def test_any_value(self):
        for value in ANY:
            for table, prices in ((TOWN, (2, 3)), (EMPTY, ())):
                name = value if value in ("a", "abcdefgh") else None
                error, kept = raised(d.person_put, table, prices, value, ())
                self.assertIs(error, InvalidSize if name is None else None)
                error, kept = raised(d.house_put, table, prices, value, (), value)
                self.assertEqual((error, kept), (InvalidSize, "house" if name is None else "price"))
                for call, more in ((d.person_gone, ()), (d.house_gone, ()), (d.price_put, (value,))):
                    error, kept = raised(call, table, prices, value, *more)
                    self.assertIs(error, NoName)
                    self.assertIs(kept, value)
            error, kept = raised(d.price_put, TOWN, (2, 3), "x", value)
            self.assertIs(error is None, type(value) is int and value >= 0)

    def test_there_and_back(self):
        dice = random.Random(1)
        for table in some_tables(2, 60):
            prices = random_prices(dice, table)
            houses = dice.sample(table.houses, dice.randint(0, len(table.houses)))
            people = dice.sample(table.people, dice.randint(0, len(table.people)))
            more = d.person_put(table, prices, "cc", houses)
            self.assertTrue(is_table(more[0]))
            self.assertEqual(d.person_gone(*more, "cc"), (table, prices))
            more = d.house_put(table, prices, "yy", people, 4)
            self.assertTrue(is_table(more[0]))
            self.assertEqual(serves(more[0], "yy"), tuple(sorted(people)))
            self.assertEqual(d.house_gone(*more, "yy"), (table, prices))

    def test_later_changes_do_not_show(self):
        houses = ["x"]
        told = d.person_put(TOWN, (2, 3), "c", houses)
        houses.append("v")
        self.assertEqual(told[0].pairs, (("b", "v"), ("c", "x"), ("d", "v"), ("d", "x")))


if __name__ == "__main__":
    unittest.main()
