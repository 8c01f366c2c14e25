"""Tables of all kinds against a plain computation of their states and lookaheads [0.11] to [0.14] [0.19] [0.31]."""

import unittest

from chosentrees.table.tables import KINDS, Table

from plain_tables import PlainTable, bare
from small import all_grammars


class TestAgainstPlainTables(unittest.TestCase):
    def test_small_grammars(self):
        for grammar in all_grammars(every=2):
            for kind in KINDS:
                self.compare(Table(grammar, kind), PlainTable(grammar, kind))

    def compare(self, table, plain):
        self.assertEqual(len(table), len(plain.states), table.grammar.lines)
        for state in range(len(table)):
            self.assertEqual(table.items(state), tuple(sorted(plain.states[state])))
            for symbol in table.grammar.terminals + table.grammar.nonterminals:
                self.assertEqual(table.after(state, symbol), plain.moves.get((state, symbol)))
            for name in table.grammar.names:
                self.assertEqual(table.lookaheads(state, name), plain.lookaheads(state, name),
                                 (table.grammar.lines, table.kind, state, name))
        self.assertEqual(table.cells, plain.cells)
        self.assertEqual(table.conflicts, {cell: plain.cells[cell] for cell in plain.cells if len(plain.cells[cell]) > 1})
        for cell in plain.cells:
            self.assertEqual(table[cell], plain.cells[cell])
            self.assertIs(cell in table, True)

    def test_kinds_without_lookaheads_have_the_same_states(self):
        for grammar in all_grammars(every=2):
            rows = [[table.items(state) for state in range(len(table))]
                    for table in (Table(grammar, kind) for kind in KINDS[:3])]
            self.assertEqual(rows[0], rows[1])
            self.assertEqual(rows[1], rows[2])

    def test_lookaheads_are_those_of_all_states_with_lookaheads(self):
        for grammar in all_grammars(every=2):
            table, exact = Table(grammar), Table(grammar, "lr1")
            for state in range(len(table)):
                alike = [each for each in range(len(exact)) if exact.core(each) == state]
                self.assertTrue(alike)
                for each in alike:
                    self.assertEqual(tuple(sorted(bare(exact.items(each)))), table.items(state))
                for name in grammar.names:
                    found = {ahead for each in alike for ahead in exact.lookaheads(each, name)}
                    self.assertEqual(table.lookaheads(state, name), tuple(sorted(found)))


if __name__ == "__main__":
    unittest.main()
