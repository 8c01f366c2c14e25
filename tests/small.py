"""Small grammars and short texts that several tests go through."""

import itertools

from chosentrees.base.grammars import Grammar
from chosentrees.errors import InvalidGrammar

TOLD = [
    ("one: S -> a",), ("one: S ->",), ("one: S -> a S b", "two: S ->"), ("one: S -> S a", "two: S ->"),
    ("num: E -> n", "plus: E -> E + E", "times: E -> E * E", "neg: E -> - E"),
    ("cond: S -> if S", "both: S -> if S else S", "act: S -> x"),
    ("push: S -> A S b", "base: S -> c", "none: A ->"),
    ("one: S -> a A a", "two: S -> b A b", "three: S -> a B b", "four: S -> b B a", "ca: A -> c", "cb: B -> c"),
    ("one: S -> A B", "two: A -> a", "three: A ->", "four: B -> b", "five: B ->"),
    ("one: S -> A b", "two: A -> a", "three: S -> a b"),
    ("one: S -> A B c", "two: A -> B a", "three: B ->", "four: B -> b A"),
    ("asg: S -> L = R", "val: S -> R", "ref: L -> * R", "name: L -> i", "left: R -> L"),
    ("cat: S -> S S", "one: S -> a"), ("cat: S -> S S S", "two: S -> b", "one: S -> a"),
    ("tern: E -> E ? E : E", "or: E -> E | E", "num: E -> n"),
    ("one: S -> A A A A A", "two: A -> a", "three: A ->"),
    ("post: E -> E !", "pre: E -> ! E", "num: E -> n"),
    ("call: E -> E ( E )", "pair: E -> E , E", "num: E -> n", "par: E -> ( E )"),
    ("both: S -> B a", "alt: S -> C b", "deep: B -> D", "down: C -> D", "none: D ->"),
    ("one: S -> A B S c", "two: S -> d", "three: A ->", "four: B ->"),
    ("one: S -> x T", "push: T -> A T b", "base: T -> c", "none: A ->", "some: A -> d"),
    ("one: S -> C S b", "two: S -> c", "three: C -> A A", "four: A ->"),
    ("one: S -> A S b", "two: S -> B S c", "three: S -> d", "four: A ->", "five: B -> A A"),
    ("one: S -> A S", "two: S -> x", "three: A -> B C", "four: B -> y", "five: C ->", "six: A -> z"),
]
PIECES = [("S", ("A", "B")), ("S", ("a", "S", "A")), ("S", ("a",)), ("S", ("A",)), ("S", ("S", "b", "B")), ("A", ()),
          ("A", ("a",)), ("A", ("B", "b")), ("A", ("S", "A")), ("B", ()), ("B", ("A", "a")), ("B", ("b", "A"))]


def made(pieces):
    """The grammar with these heads and bodies, or None."""
    try:
        return Grammar(tuple(("defghijk"[at], head, body) for at, (head, body) in enumerate(pieces)))
    except InvalidGrammar:
        return None


def told_grammars():
    """The grammars that are told."""
    return [Grammar.from_lines(*lines) for lines in TOLD]


def all_grammars(every=1):
    """The told grammars, and each so many-th one of those made of a few pieces."""
    rows = [row for many in (2, 3, 4, 5) for row in itertools.combinations(PIECES, many) if row[0][0] == "S"]
    grammars = [grammar for grammar in map(made, rows) if grammar is not None]
    return told_grammars() + grammars[::every]


def texts(grammar, most):
    """All tuples of at most so many terminals of the grammar."""
    return [text for many in range(most + 1) for text in itertools.product(grammar.terminals, repeat=many)]


def some_texts(grammar, most, limit):
    """All tuples with at most so many terminals, but only lengths with which there are not more than the limit."""
    found = []
    for many in range(most + 1):
        row = list(itertools.product(grammar.terminals, repeat=many))
        if len(found) + len(row) > limit:
            return found
        found += row
    return found
