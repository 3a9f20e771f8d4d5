"""[68], [69] Trees that show a least price."""

import random
import unittest

from servedall.apart import dot_table, ring_table
from servedall.branches import branch_paper, check_branches, depth_of, leaves_of
from servedall.errors import Refused
from servedall.fractions import ceiling_of
from servedall.openings import least_openings, least_price, price_of
from servedall.prices import right_payments, sum_of
from servedall.settling import least_shares
from servedall.tables import Table, left, table_of
from support import ANY, check_call, openings_by_hand, raised, random_prices, random_table, some_tables, subsets

FIVE = ring_table(5)
ONES = (1,) * 5
HALF = ((1, 2),) * 5
EMPTY = Table((), (), ())


def is_tree_by_hand(table, prices, price, opened, closed, value):
    """Whether something is a tree of a case, straight from the words."""
    houses = tuple(h for h in table.houses if h not in opened and h not in closed)
    people = tuple(p for p in table.people if not any((p, h) in table.pairs for h in opened))
    part = left(table, people, houses)
    if not isinstance(value, tuple):
        return False
    if len(value) == 2 and value[0] == "enough":
        prices_left = tuple(one for one, h in zip(prices, table.houses) if h in houses)
        return (right_payments(part, prices_left, value[1])
                and ceiling_of(sum_of(value[1])) + price_of(table, prices, opened) >= price)
    if len(value) == 2 and value[0] == "lost":
        return value[1] in people and not any(p == value[1] for p, _ in part.pairs)
    if len(value) == 4 and value[0] == "house" and value[1] in houses:
        return (is_tree_by_hand(table, prices, price, opened + (value[1],), closed, value[2])
                and is_tree_by_hand(table, prices, price, opened, closed + (value[1],), value[3]))
    return False


def full_tree(table, prices, opened=(), at=0):
    """A tree that branches on each house, whatever the price that is asked for, if nothing is cheaper."""
    missing = [p for p in table.people if not any((p, h) in table.pairs for h in opened)]
    if at == len(table.houses):
        return ("lost", missing[0]) if missing else ("enough", ())
    house = table.houses[at]
    return ("house", house, full_tree(table, prices, opened + (house,), at + 1),
            full_tree(table, prices, opened, at + 1))


def changed(dice, tree):
    """A tree, changed a little in some place."""
    if isinstance(tree, tuple) and tree and dice.random() < 0.7:
        at = dice.randrange(len(tree))
        return tree[:at] + (changed(dice, tree[at]),) + tree[at + 1:]
    return dice.choice(("enough", "lost", "house", "a", "x", (), ((0, 1),), (1, 1), ("lost", "a"), ("enough", ()), 0))


class CheckTest(unittest.TestCase):

    def test_example(self):
        self.assertIs(check_branches(FIVE, ONES, ("a", "c", "d"), ("enough", HALF)), True)
        opening, tree = branch_paper(FIVE, ONES)
        self.assertEqual((len(opening), check_branches(FIVE, ONES, opening, tree)), (3, True))

    def test_rounded_up(self):
        self.assertIs(check_branches(FIVE, ONES, ("a", "b", "c", "d"), ("enough", HALF)), False)
        self.assertIs(check_branches(FIVE, ONES, ("a", "c", "d"), ("enough", ((1, 2),) * 4 + ((0, 1),))), False)
        self.assertIs(check_branches(FIVE, ONES, ("a", "c", "d"), ("enough", ((1, 2),) * 4 + ((1, 9),))), True)

    def test_openings_in_any_order(self):
        for houses in (("d", "c", "a"), ["a", "c", "d"], ("a", "c", "d", "c"), ["d", "a", "c", "a"]):
            self.assertIs(check_branches(FIVE, ONES, houses, ("enough", HALF)), True)

    def test_houses_that_leave_somebody(self):
        self.assertIs(check_branches(FIVE, ONES, ("a", "c"), ("enough", HALF)), False)
        self.assertIs(check_branches(FIVE, ONES, (), ("enough", HALF)), False)

    def test_wrong_trees(self):
        for value in (None, "enough", ("enough",), ["enough", HALF], ("enough", list(HALF)), ("enough", HALF[:4]),
                      ("enough", ((1, 1),) * 5), ("enough", HALF, HALF), ("lost", "a"), ("lost", "z"), ("lost", None),
                      ("house", "a", ("enough", HALF), ("enough", HALF)), ("enough", None), (HALF, "enough"), (),
                      ("house", "z", ("enough", HALF), ("enough", HALF)), ("enough", ((5, 1), (-2, 1)) * 2 + ((0, 1),)),
                      ("house", ["a"], ("enough", HALF), ("enough", HALF)), ("house", "a", ("enough", HALF))):
            self.assertIs(check_branches(FIVE, ONES, ("a", "c", "d"), value), False, value)

    def test_any_value(self):
        for value in ANY:
            for table, prices in ((FIVE, ONES), (EMPTY, ()), (Table((), ("x",), ()), (0,))):
                opening = tuple(table.houses)
                told = check_branches(table, prices, opening, value)
                self.assertIs(told, is_tree_by_hand(table, prices, price_of(table, prices, opening), (), (), value))
            self.assertIs(check_branches(FIVE, ONES, ("a", "c", "d"), ("house", value, value, value)), False)
            self.assertIs(check_branches(FIVE, ONES, ("a", "c", "d"), ("lost", value)), False)

    def test_both_branches_and_lost(self):
        lane = table_of("ab", "xy", [("a", "x"), ("a", "y"), ("b", "y")])
        enough = ("enough", ((0, 1),))
        tree = ("house", "y", ("enough", ()), ("lost", "b"))
        self.assertIs(check_branches(lane, (1, 3), ("y",), tree), True)
        self.assertIs(check_branches(lane, (1, 3), ("x", "y"), tree), False)
        self.assertIs(check_branches(lane, (1, 3), ("y",), ("house", "y", ("lost", "b"), ("enough", ()))), False)
        self.assertIs(check_branches(lane, (1, 3), ("y",), ("house", "y", ("enough", ()), ("lost", "a"))), False)
        # A house that was opened or closed is not left, and those whom it serves are neither.
        self.assertIs(check_branches(lane, (1, 3), ("y",), ("house", "y", enough, ("lost", "b"))), False)
        self.assertIs(check_branches(lane, (1, 3), ("y",), ("house", "y", ("house", "y", ("enough", ()), ("enough", ())),
                                                           ("lost", "b"))), False)
        self.assertIs(check_branches(lane, (1, 3), ("y",), ("house", "x", ("house", "y", ("enough", ()), ("lost", "b")),
                                                           ("house", "y", ("enough", ()), ("lost", "b")))), True)

    def test_changed_trees(self):
        dice = random.Random(1)
        for table in some_tables(2, 40, most=4, servable=True):
            prices = random_prices(dice, table)
            for houses in dice.sample(list(subsets(table.houses)), min(4, 2 ** len(table.houses))):
                trees = [branch_paper(table, prices)[1], full_tree(table, prices)]
                trees += [changed(dice, tree) for tree in trees * 6]
                for tree in trees:
                    wanted = houses in openings_by_hand(table) and is_tree_by_hand(
                        table, prices, price_of(table, prices, houses), (), (), tree)
                    self.assertIs(check_call(self, check_branches, table=table, prices=prices, opening=houses,
                                             value=tree), wanted)


class PaperTest(unittest.TestCase):

    def check_table(self, table, prices):
        opening, tree = check_call(self, branch_paper, table=table, prices=prices)
        self.assertIn(opening, openings_by_hand(table) if len(table.houses) < 9 else least_openings(table, prices))
        self.assertEqual(price_of(table, prices, opening), least_price(table, prices))
        self.assertIs(check_branches(table, prices, opening, tree), True)
        self.assertTrue(is_tree_by_hand(table, prices, least_price(table, prices), (), (), tree))
        # Where shares rounded up cost as much as openings, there is nothing to branch on.
        alone = ceiling_of(sum_of(least_shares(table, prices)[1])) == least_price(table, prices)
        self.assertIs(leaves_of(tree) == 1, alone)
        self.assertIs(depth_of(tree) == 0, alone)

    def test_all_kinds(self):
        dice = random.Random(3)
        for table in some_tables(4, 80, servable=True):
            for prices in (random_prices(dice, table), (1,) * len(table.houses), (0,) * len(table.houses)):
                self.check_table(table, prices)

    def test_ten(self):
        dice = random.Random(5)
        for density in (0.2, 0.3, 0.5):
            table = random_table(dice, 10, 10, density, servable=True)
            for most in (2, 100, 10 ** 6):
                self.check_table(table, tuple(dice.randint(most - most // 3, most) for _ in range(10)))

    def test_far_apart(self):
        for size in (3, 4):
            table = dot_table(size)
            self.check_table(table, (1,) * len(table.houses))
        for size in (3, 16):
            self.check_table(ring_table(size), (1,) * size)

    def test_empty(self):
        self.assertEqual(branch_paper(EMPTY, ()), ((), ("enough", ())))
        self.assertEqual(branch_paper(Table((), ("x",), ()), (2,))[1], ("enough", ()))

    def test_unserved(self):
        self.assertEqual(raised(branch_paper, table=Table(("a",), ("x",), ()), prices=(0,)), (Refused, "unserved"))


class TreeTest(unittest.TestCase):

    def test_leaves_and_depth(self):
        leaf, lost = ("enough", HALF), ("lost", "a")
        fork = ("house", "a", leaf, lost)
        for tree, leaves, depth in ((leaf, 1, 0), (lost, 1, 0), (fork, 2, 1), (("house", "b", lost, fork), 3, 2),
                                    (("house", "b", fork, leaf), 3, 2), (("house", "b", fork, fork), 4, 2)):
            self.assertEqual(check_call(self, leaves_of, tree=tree), leaves)
            self.assertEqual(check_call(self, depth_of, tree=tree), depth)

    def test_full_trees(self):
        dice = random.Random(6)
        for table in some_tables(7, 20, most=4, servable=True):
            tree = full_tree(table, random_prices(dice, table))
            self.assertEqual((leaves_of(tree), depth_of(tree)), (2 ** len(table.houses), len(table.houses)))


if __name__ == "__main__":
    unittest.main()
