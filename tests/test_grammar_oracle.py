"""Grammars compared with what all texts of few terminals tell [0.10] [0.18]."""

import itertools
import unittest

from chosentrees.base.grammars import Grammar
from chosentrees.errors import InvalidGrammar

import oracle

SYMBOLS = ("S", "A", "a", "b")
BODIES = [body for many in range(3) for body in itertools.product(SYMBOLS, repeat=many)]
PAIRS = [(head, body) for head in ("S", "A") for body in BODIES]
LONGER = [("S", ("A", "B")), ("S", ("B", "A", "S")), ("S", ("a",)), ("S", ("A",)), ("S", ("S", "b", "B")), ("A", ()),
          ("A", ("a",)), ("A", ("B", "b")), ("A", ("S", "A")), ("B", ()), ("B", ("A",)), ("B", ("b", "A")),
          ("B", ("a", "S"))]


def named(pairs):
    """Productions with these heads and bodies."""
    return tuple(("abcdefgh"[at], head, body) for at, (head, body) in enumerate(pairs))


def small_rows():
    """Some of all rows of up to three small productions, and rows of more with three nonterminals."""
    rows = [row for many in (1, 2, 3) for row in itertools.combinations(PAIRS, many)]
    longer = [row for many in (3, 4, 5) for row in itertools.combinations(LONGER, many) if row[0][0] == "S"]
    return [named(row) for row in rows[::7] + longer if row[0][0] == "S"]


class TestAgainstAllTexts(unittest.TestCase):
    def test_small_grammars(self):
        right = 0
        for productions in small_rows():
            if oracle.makes_grammar(productions):
                right += 1
                self.compare(productions)
            else:
                with self.assertRaises(InvalidGrammar, msg=productions):
                    Grammar(productions)
        self.assertGreater(right, 100)

    def compare(self, productions):
        grammar = Grammar(productions)
        texts = oracle.all_texts(productions)
        self.assertEqual(grammar.nonterminals, tuple(sorted(oracle.nonterminals(productions))))
        for nonterminal in grammar.nonterminals:
            told = (grammar.firsts(nonterminal), grammar.follows(nonterminal), grammar.least(nonterminal))
            wanted = (oracle.firsts(texts, nonterminal), oracle.follows(productions, texts, nonterminal),
                      oracle.least(texts, nonterminal))
            self.assertEqual(told, wanted, (productions, nonterminal))


if __name__ == "__main__":
    unittest.main()
