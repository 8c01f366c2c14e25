"""Values that several tests use."""

from chosentrees.base.grammars import Grammar
from chosentrees.errors import InvalidGrammar, ParseError
from chosentrees.wish.filters import Filter

SUMS = Grammar.from_lines("num: E -> n", "plus: E -> E + E", "times: E -> E * E", "neg: E -> - E")
ELSE = Grammar.from_lines("cond: S -> if S", "both: S -> if S else S", "act: S -> x")
NEST = Grammar.from_lines("push: S -> A S b", "base: S -> c", "none: A ->")
PAIRS = Grammar.from_lines("one: S -> a A a", "two: S -> b A b", "three: S -> a B b", "four: S -> b B a",
                           "ca: A -> c", "cb: B -> c")
NEAR = ("cond", ("if", ("both", ("if", ("act", ("x",)), "else", ("act", ("x",))))))
FAR = ("both", ("if", ("cond", ("if", ("act", ("x",)))), "else", ("act", ("x",))))
USUAL = Filter((("child", "neg", 1, "plus"), ("child", "neg", 1, "times"), ("child", "plus", 2, "plus"),
                ("child", "times", 0, "plus"), ("child", "times", 2, "plus"), ("child", "times", 2, "times")))
DANGLING = Filter((("right", "both", 1, "cond"),))
SMALL = "abcdefghijklmnopqrstuvwxyz"
LARGE = SMALL.upper()
SIGN_LIST = "+ - * / ^ = < > ! ? & | . , ; : ( ) [ ]".split(" ")
PRINTABLE = [chr(code) for code in range(32, 127)]


def chain_of(many):
    """A tree of SUMS with so many nodes, each below the one ahead."""
    tree = ("num", ("n",))
    for _ in range(many - 1):
        tree = ("neg", ("-", tree))
    return tree


def comb_of(many):
    """A tree of SUMS with so many nodes, an odd number, to the left."""
    tree = ("num", ("n",))
    for _ in range(many // 2):
        tree = ("plus", (tree, "+", ("num", ("n",))))
    return tree


def nested(depth, value=()):
    """The value inside of so many tuples."""
    for _ in range(depth):
        value = (value,)
    return value


def nested_list(depth):
    """An empty list inside of so many lists."""
    value = []
    for _ in range(depth):
        value = [value]
    return value


# None of these is a symbol, a name, a text, a line, a production or a tuple of productions; two are grammars.
ODD = [
    True, False, None, 0, 1, -1, 3, 10 ** 59, 10 ** 99, -10 ** 99,
    [], ["a"], ["E"], ["num"], {}, {"a": "a"}, {"num": ("num", "E", ("n",))}, {0: 1},
    (True,), (None,), (1,), ((),), (("a",),), ([],), ({},), (10 ** 99,),
    nested(49), nested(48, ("a",)), nested_list(49),
    " ", "\n", "\t", "a\n", "\na", "a\t", "E\n", "\tE", "num\n", "a ", " a", "a  a", "a\na", "a\ta", "'a'", "x" * 9000,
    "E" * 9000, "~", "{", "0", "1", "a1", "E1", "aB", "EB", "_", "a_",
    SUMS, ELSE, InvalidGrammar("odd"), ParseError(3), InvalidGrammar, Grammar, ("act", ("x",)),
]
# Keys of dicts that are no symbols and no names of SUMS.
ODD_KEYS = [True, False, None, 0, 1, 10 ** 99, (), ("n",), ("num",), nested(49), "", "z", "Z", "n\n", "E\t", "n ", "$",
            "shift", "nn", "x" * 9000, ParseError(3)]
