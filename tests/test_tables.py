"""Tables: their properties, cells and methods, and wrong inputs [0.11] to [0.14]."""

import unittest

from chosentrees.base.grammars import Grammar
from chosentrees.errors import InvalidGrammar, InvalidOperation, TooMany, UnknownName
from chosentrees.table import tables
from chosentrees.table.tables import KINDS, Table

from samples import ELSE, NEST, ODD, ODD_KEYS, PAIRS, SUMS

# With lookaheads these have 300 and 301 states.
FULL = Grammar.from_lines("a: S -> c", "b: A -> c a c a", "c: B -> A a", "d: B -> d B", "e: A -> d S a",
                          "f: A -> d A b a", "g: A -> B a a a", "h: B -> S a", "i: A -> c", "j: B -> a c b S",
                          "k: A -> S", "l: S -> a d c A", "m: B -> b A d", "n: B -> A c A A B", "o: A -> a c S c B")
OVER = Grammar.from_lines("a: S -> B b C", "b: A -> B", "c: B -> S c a c", "d: C -> C c a A", "e: A -> C c c S",
                          "f: S -> S c", "g: C -> B", "h: S -> b b c b S", "i: B -> a c", "j: A -> S a c",
                          "k: C -> b B", "l: S -> a a c B", "m: B -> c b A", "n: A -> C a C B", "o: B -> a C")
NOT_STATES = [True, False, None, -1, 9, 10 ** 59, 10 ** 99, "0", (0,), [0], {}, SUMS, ()]


class TestForm(unittest.TestCase):
    def test_constants(self):
        self.assertEqual((tables.KINDS, tables.MAX_STATES), (("lr0", "slr", "lalr", "lr1"), 300))

    def test_properties(self):
        for kind in KINDS:
            table = Table(SUMS, kind)
            self.assertEqual((table.grammar, table.kind), (SUMS, kind))
        self.assertEqual(Table(SUMS).kind, "lalr")
        self.assertEqual(Table(SUMS, kind="slr").kind, "slr")

    def test_equal_tables(self):
        self.assertTrue(Table(SUMS) == Table(SUMS, "lalr") and not Table(SUMS) != Table(SUMS))
        self.assertTrue(Table(SUMS) != Table(SUMS, "slr") and not Table(SUMS) == Table(SUMS, "slr"))
        self.assertTrue(Table(SUMS) != Table(SUMS - "neg"))
        turned = Grammar(SUMS.productions[:1] + SUMS.productions[:0:-1])
        self.assertTrue(Table(SUMS) != Table(turned))
        for value in ODD:
            self.assertIs(Table(SUMS) == value, False)
            self.assertIs(Table(SUMS) != value, True)

    def test_strings_and_lengths(self):
        self.assertEqual([str(Table(PAIRS, kind)) for kind in KINDS],
                         ["lr0 table of 13 states, 4 conflicts", "slr table of 13 states, 2 conflicts",
                          "lalr table of 13 states, 2 conflicts", "lr1 table of 14 states, 0 conflicts"])
        self.assertEqual([len(Table(PAIRS, kind)) for kind in KINDS], [13, 13, 13, 14])

    def test_not_iterable(self):
        with self.assertRaises(TypeError):
            iter(Table(SUMS))
        with self.assertRaises(TypeError):
            list(Table(SUMS))

    def test_rows_are_ascending_tuples(self):
        for grammar in (SUMS, ELSE, NEST, PAIRS):
            for kind in KINDS:
                table = Table(grammar, kind)
                self.assertEqual(list(table.cells), sorted(table.cells))
                self.assertEqual(list(table.conflicts), sorted(table.conflicts))
                rows = list(table.cells.values()) + [table.items(state) for state in range(len(table))]
                rows += [table.lookaheads(state, name) for state in range(len(table)) for name in grammar.names]
                for row in rows:
                    self.assertIs(type(row), tuple)
                    self.assertEqual(list(row), sorted(set(row)))

    def test_changing_a_returned_dict_changes_nothing(self):
        table = Table(ELSE)
        for made in (table.cells, table.conflicts):
            made.clear()
        self.assertEqual((table.conflicts, str(table)), ({(4, "else"): ("cond", "shift")},
                                                         "lalr table of 7 states, 1 conflicts"))
        self.assertEqual(table.cells, Table(ELSE).cells)


class TestErrors(unittest.TestCase):
    def test_no_grammar_comes_first(self):
        for wrong in [value for value in ODD if not isinstance(value, Grammar)] + [Table(SUMS)]:
            for kind in ("lalr", "lr2", None):
                with self.assertRaises(InvalidGrammar):
                    Table(wrong, kind)

    def test_no_kind(self):
        for wrong in ODD + ["LALR", "lalr ", "", "lr", KINDS, ("lalr",), ["lalr"]]:
            with self.assertRaises(InvalidOperation):
                Table(SUMS, wrong)
            with self.assertRaises(InvalidOperation):
                Table(OVER, kind=wrong)

    def test_three_hundred_states(self):
        self.assertEqual(len(Table(FULL, "lr1")), 300)
        with self.assertRaises(TooMany) as caught:
            Table(OVER, "lr1")
        self.assertEqual(caught.exception.limit, 300)
        sizes = [len(Table(OVER, kind)) for kind in KINDS[:3]]
        self.assertEqual(len(set(sizes)), 1)
        self.assertLess(sizes[0], 300)
        self.assertEqual(len({Table(FULL, "lr1").core(state) for state in range(300)}), len(Table(FULL)))

    def test_cells(self):
        table = Table(SUMS)
        wrong = [(state, "n") for state in NOT_STATES] + ODD + NOT_STATES + [
            (0, "E"), (0, "x"), (0, ""), (0, None), (0, True), (0,), (0, "n", "n"), [0, "n"], ("n", 0), (0, ("n",))]
        for value in wrong:
            with self.assertRaises(InvalidOperation):
                table[value]
            self.assertIs(value in table, False)
        self.assertEqual(table[(0, "$")], ())
        self.assertIs((0, "$") in table, False)
        self.assertIs((0, "n") in table, True)
        self.assertIs((0, "E") in table, False)

    def test_states(self):
        table = Table(SUMS)
        for wrong in NOT_STATES:
            for call in (lambda: table.items(wrong), lambda: table.after(wrong, "n"), lambda: table.after(wrong, "x"),
                         lambda: table.lookaheads(wrong, "num"), lambda: table.lookaheads(wrong, "x"),
                         lambda: table.core(wrong)):
                with self.assertRaises(InvalidOperation):
                    call()

    def test_unknown_names(self):
        table = Table(SUMS)
        for wrong in ODD + ODD_KEYS:
            with self.assertRaises(UnknownName) as caught:
                table.lookaheads(0, wrong)
            self.assertIs(caught.exception.wanted, wrong)
        for wrong in [value for value in ODD + ODD_KEYS] + ["x", "S", "$", "num", "", ("E",)]:
            with self.assertRaises(UnknownName) as caught:
                table.after(0, wrong)
            self.assertIs(caught.exception.wanted, wrong)
        for wrong in ("accept", "shift", "E", "n", "nums", ("num", "E", ("n",))):
            with self.assertRaises(UnknownName):
                table.lookaheads(0, wrong)

    def test_walks(self):
        table = Table(SUMS)
        for wrong in [value for value in ODD if value != ()] + ["E", ["E"], ("E", "$"), ("num",), ("E", None), ("S",)]:
            with self.assertRaises(InvalidOperation):
                table.walk(wrong)
        self.assertEqual([table.walk(()), table.walk(("E",)), table.walk(("+",)), table.walk(("-",) * 500)], [0, 3, None, 1])


class TestExamplesOfStates(unittest.TestCase):
    def test_the_states_of_sums(self):
        for kind in KINDS[:3]:
            table = Table(SUMS, kind)
            walks = ["-", "n", "E", "- E", "E *", "E +", "E * E", "E + E"]
            self.assertEqual([table.walk(tuple(walk.split(" "))) for walk in walks], list(range(1, 9)))
        table = Table(SUMS)
        self.assertEqual(sorted(table.conflicts), [(state, sign) for state in (4, 7, 8) for sign in "*+"])
        self.assertEqual(table.conflicts[(4, "*")], ("neg", "shift"))
        self.assertEqual(table.items(0), (("accept", 0), ("neg", 0), ("num", 0), ("plus", 0), ("times", 0)))
        self.assertEqual(table[(3, "$")], ("accept",))
        self.assertEqual([table.after(0, "E"), table.after(0, "+"), table.after(2, "E"), table.after(3, "+")],
                         [3, None, None, 6])

    def test_lookaheads(self):
        ends = tuple(sorted(SUMS.terminals + ("$",)))
        self.assertEqual([Table(SUMS, kind).lookaheads(2, "num") for kind in KINDS[:3]],
                         [ends, ("$", "*", "+"), ("$", "*", "+")])
        self.assertEqual(Table(SUMS).lookaheads(2, "plus"), ())
        self.assertEqual(Table(SUMS).lookaheads(7, "plus"), ())
        self.assertEqual([Table(NEST, kind).lookaheads(0, "none") for kind in KINDS],
                         [("$", "b", "c"), ("c",), ("c",), ("c",)])

    def test_items_with_lookaheads(self):
        table = Table(ELSE, "lr1")
        self.assertEqual(table.items(0), (("accept", 0, "$"), ("act", 0, "$"), ("both", 0, "$"), ("cond", 0, "$")))
        self.assertEqual(table.items(table.walk(("if",)))[:4],
                         (("act", 0, "$"), ("act", 0, "else"), ("both", 0, "$"), ("both", 0, "else")))

    def test_cores(self):
        for kind in KINDS[:3]:
            self.assertEqual([Table(ELSE, kind).core(state) for state in range(7)], list(range(7)))
        table, plain = Table(ELSE, "lr1"), Table(ELSE)
        for state in range(len(table)):
            bare = tuple(sorted({item[:2] for item in table.items(state)}))
            self.assertEqual(plain.items(table.core(state)), bare)

    def test_three_actions_at_a_cell(self):
        grammar = Grammar.from_lines("one: S -> A x", "two: S -> B x", "three: S -> a x", "ca: A -> a", "cb: B -> a")
        self.assertEqual(Table(grammar).conflicts, {(1, "x"): ("ca", "cb", "shift")})

    def test_accept_beside_reductions(self):
        grammar = Grammar.from_lines("one: S -> A", "two: A -> S a", "three: A -> a")
        state = Table(grammar).walk(("S",))
        self.assertEqual(Table(grammar, "lr0")[(state, "$")], ("accept",))
        empty = Grammar.from_lines("one: S -> S a", "two: S ->")
        self.assertEqual([Table(empty, kind)[(0, "$")] for kind in KINDS], [("two",)] * 4)


if __name__ == "__main__":
    unittest.main()
