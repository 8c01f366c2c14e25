"""Resolutions of tables, and what they have in common [0.15]."""

import unittest

from chosentrees.errors import InvalidOperation, InvalidResolution
from chosentrees.table.levels import common, is_contained, is_resolution, joined, settled
from chosentrees.table.tables import KINDS, Table

from samples import ELSE, NEST, ODD, ODD_KEYS, PAIRS, SUMS
from small import all_grammars

BIG = 10 ** 60
WRONG = [value for value in ODD if value != {}] + [
    {(0, "$"): "reduce!"}, {(0, "$"): True}, {(0, "$"): None}, {(0, "$"): "E"}, {(0, "$"): ""}, {(0, "$"): ("num",)},
    {(-1, "$"): "num"}, {(True, "$"): "num"}, {(BIG, "$"): "num"}, {("0", "$"): "num"}, {(0, "E"): "num"},
    {(0, ""): "num"}, {(0, None): "num"}, {(0,): "num"}, {(0, "$", 0): "num"}, {0: "num"}, {"$": "num"},
    {(0, "$"): "num", (1, "$"): 1}, {(0, ("$",)): "num"}, {(0, "$"): "$"}, [((0, "$"), "num")],
]


class TestIsResolution(unittest.TestCase):
    def test_all_choices_of_small_tables(self):
        for grammar in (ELSE, NEST, SUMS, PAIRS):
            for kind in KINDS:
                table = Table(grammar, kind)
                for cell, actions in table.cells.items():
                    for action in grammar.names + ("shift", "accept"):
                        self.assertIs(is_resolution(table, {cell: action}), action in actions)
                self.assertIs(is_resolution(table, {cell: table[cell][-1] for cell in reversed(list(table.cells))}), True)
                self.assertIs(is_resolution(table, {}), True)

    def test_other_values(self):
        table = Table(SUMS)
        for value in WRONG + [{key: "shift"} for key in ODD_KEYS]:
            self.assertIs(is_resolution(table, value), False, value)
        for value in ({(0, "$"): "accept"}, {(9, "n"): "shift"}, {(0, "x"): "shift"}, {(1, "n"): "shift", (2, "n"): "shift"},
                      {(1, "n"): ["shift"]}, {(1, "n"): ("shift",)}):
            self.assertIs(is_resolution(table, value), False, value)
        self.assertIs(is_resolution(table, {(1, "n"): "shift"}), True)
        self.assertIs(is_resolution(table, {(True, "n"): "shift"}), False)

    def test_no_table(self):
        for wrong in ODD:
            for call in (lambda: is_resolution(wrong, {}), lambda: settled(wrong)):
                with self.assertRaises(InvalidOperation):
                    call()


class TestSettled(unittest.TestCase):
    def test_cells_with_one_action(self):
        for grammar in all_grammars(every=9):
            for kind in KINDS:
                table = Table(grammar, kind)
                made = settled(table)
                self.assertEqual(made, {cell: row[0] for cell, row in table.cells.items() if cell not in table.conflicts})
                self.assertEqual(list(made), sorted(made))
                self.assertTrue(is_resolution(table, made))


class TestTogether(unittest.TestCase):
    one = {(8, "+"): "plus", (0, "n"): "shift"}
    two = {(8, "+"): "plus", (3, "$"): "accept"}
    three = {(8, "+"): "shift", (3, "$"): "accept"}

    def test_contained(self):
        self.assertIs(is_contained({}, {}), True)
        self.assertIs(is_contained({}, self.one), True)
        self.assertIs(is_contained(self.one, {}), False)
        self.assertIs(is_contained({(8, "+"): "plus"}, self.one), True)
        self.assertIs(is_contained({(8, "+"): "shift"}, self.one), False)
        self.assertIs(is_contained(self.one, self.two), False)
        self.assertIs(is_contained(self.one, joined(self.one, self.two)), True)

    def test_joined_and_common(self):
        self.assertEqual((joined(), common()), ({}, {}))
        self.assertEqual((joined(self.one), common(self.one)), (self.one, self.one))
        self.assertEqual(list(joined(self.one).items()), [((0, "n"), "shift"), ((8, "+"), "plus")])
        self.assertEqual(list(common(self.one)), [(0, "n"), (8, "+")])
        self.assertEqual(list(joined(self.two, self.one)), [(0, "n"), (3, "$"), (8, "+")])
        self.assertEqual(common(self.one, self.two), {(8, "+"): "plus"})
        self.assertEqual(common(self.two, self.three), {(3, "$"): "accept"})
        self.assertEqual(common(self.one, self.two, self.three), {})
        self.assertEqual(common(self.one, {}), {})
        self.assertEqual(joined(self.one, {}, self.one), self.one)

    def test_cells_of_any_table(self):
        wide = {(BIG - 1, "while"): "loop", (0, "?"): "accept"}
        self.assertEqual((joined(wide), common(wide, wide), is_contained(wide, wide)), (wide, wide, True))

    def test_two_that_differ(self):
        with self.assertRaises(InvalidOperation):
            joined(self.one, self.three)
        with self.assertRaises(InvalidOperation):
            joined(self.two, {}, self.three)

    def test_no_resolutions(self):
        for wrong in WRONG:
            for call in (lambda: is_contained(wrong, {}), lambda: is_contained({}, wrong), lambda: joined(wrong),
                         lambda: joined({}, wrong), lambda: common(wrong), lambda: common({}, {}, wrong),
                         lambda: joined(self.one, self.three, wrong)):
                with self.assertRaises(InvalidResolution):
                    call()

    def test_nothing_is_changed(self):
        rows = [dict(self.one), dict(self.two)]
        made = [joined(*rows), common(*rows), joined(rows[0]), common(rows[0])]
        for each in made:
            each[(5, "x")] = "shift"
            each.pop((8, "+"))
        self.assertEqual((rows, list(rows[0])), ([self.one, self.two], [(8, "+"), (0, "n")]))


if __name__ == "__main__":
    unittest.main()
