"""Levels of precedence and the resolutions by them [0.17]."""

import itertools
import unittest

from chosentrees.base.grammars import Grammar
from chosentrees.errors import InvalidGrammar, InvalidLevels, InvalidNumber, InvalidOperation, UnknownName
from chosentrees.table import levels as module
from chosentrees.table.levels import Levels, is_resolution
from chosentrees.table.tables import KINDS, Table

from samples import ELSE, NEST, ODD, ODD_KEYS, PAIRS, SUMS
from small import told_grammars

ARITH = Levels((("left", ("+",)), ("left", ("*",))), own={"neg": 1})
THREE = Grammar.from_lines("one: S -> A x y", "two: S -> B x z", "three: S -> a x x", "ca: A -> a", "cb: B -> a")
WORDS = ["a", "b", "c", "d", "e", "f", "g", "h", "i", "j", "k", "l", "m", "n", "o", "p", "q", "r", "s", "t", "u", "v",
         "w", "x", "y", "z"]


def plain_winner(levels, grammar, order, ahead, one, other):
    """The winner of two different actions, or None, by the words of the document."""
    if "accept" in (one, other):
        return "accept"
    if "shift" in (one, other):
        name = other if one == "shift" else one
        groups = [row for word, row in levels.groups]
        of = {terminal: at for at, row in enumerate(groups) for terminal in row}
        ends = [symbol for symbol in grammar[name][2] if not symbol[0].isupper()]
        level = levels.own[name] if name in levels.own else of.get(ends[-1]) if ends else None
        if level is None or ahead not in of or of[ahead] > level:
            return "shift"
        if level > of[ahead]:
            return name
        return {"left": name, "right": "shift", "none": None}[levels.groups[level][0]]
    names = list(grammar.names)
    place = {name: (order.index(name), 0) if name in order else (len(order), names.index(name)) for name in names}
    return min(one, other, key=place.get)


def plain_resolution(levels, table):
    """The action at each cell that wins against all others."""
    found = {}
    for (state, ahead), actions in table.cells.items():
        for one in actions:
            winners = [plain_winner(levels, table.grammar, levels.order, ahead, one, other)
                       for other in actions if other != one]
            if all(winner == one for winner in winners):
                found[(state, ahead)] = one
    return found


def some_levels(grammar):
    """Some levels for a grammar, also with names and terminals that it does not have."""
    signs, names = grammar.terminals, grammar.names
    yield Levels()
    for how in ("left", "right", "none"):
        yield Levels(((how, signs),))
        yield Levels(tuple((how, (sign,)) for sign in signs), order=names[::-1])
        yield Levels(tuple((how, (sign,)) for sign in signs[::-1]), own={name: None for name in names[::2]})
        yield Levels(((how, ()), ("left", signs[:1]), (how, tuple(sorted(signs[1:] + ("zz",))))),
                     own={names[0]: 0, "nobody": 2, names[-1]: 1}, order=("nobody", names[-1]))


class TestForm(unittest.TestCase):
    def test_constants(self):
        self.assertEqual(module.ASSOCIATIVITIES, ("left", "right", "none"))

    def test_properties(self):
        self.assertEqual((ARITH.groups, ARITH.own, ARITH.order), ((("left", ("+",)), ("left", ("*",))), {"neg": 1}, ()))
        made = Levels((("none", ("a", "b")),), own={"b": None, "a": 0}, order=("q", "b"))
        self.assertEqual((list(made.own.items()), made.order), ([("a", 0), ("b", None)], ("q", "b")))
        self.assertEqual((Levels().groups, Levels().own, Levels().order), ((), {}, ()))
        self.assertEqual(Levels((), own={}), Levels(groups=(), own=None))

    def test_equality(self):
        same = Levels((("left", ("+",)), ("left", ("*",))), own={"neg": 1})
        self.assertTrue(ARITH == same and not ARITH != same)
        for other in (Levels(ARITH.groups), Levels(ARITH.groups[::-1], own={"neg": 1}), Levels(ARITH.groups, own={"neg": 0}), Levels(ARITH.groups[:1], own={"neg": 0}),
                      Levels(ARITH.groups, own={"neg": 1}, order=("neg",)), Levels()):
            self.assertTrue(ARITH != other and not ARITH == other)
        self.assertTrue(Levels(own={"neg": None}) != Levels())
        for value in ODD:
            self.assertIs(ARITH == value, False)

    def test_lengths_strings_and_truth(self):
        self.assertEqual([len(Levels()), len(ARITH), bool(Levels()), bool(ARITH)], [0, 2, False, True])
        self.assertIs(bool(Levels(own={"neg": None}, order=("neg",))), False)
        self.assertIs(bool(Levels((("none", ()),))), True)
        made = Levels((("left", ("+", "-")), ("right", ("^",)), ("none", ())), own={"neg": None})
        self.assertEqual([str(made), str(Levels()), str(Levels(order=("a",)))],
                         ["left + -, right ^, none", "no levels", "no levels"])

    def test_levels_by_their_indices(self):
        made = Levels((("left", ()), ("right", ("^",)), ("none", ())))
        self.assertEqual([made[0], made[1], made[2]], ["left", "right", "none"])
        odd = [value for value in ODD_KEYS if isinstance(value, bool) or value not in (0, 1)]
        for wrong in odd + [-1, 3, True, False, None, "0", 10 ** 99, [0], {}, (0,), slice(0, 1)]:
            with self.assertRaises(InvalidNumber) as caught:
                made[wrong]
            self.assertIs(caught.exception.given, wrong)

    def test_not_iterable(self):
        for made in (ARITH, Levels()):
            with self.assertRaises(TypeError):
                iter(made)

    def test_terminals_in_levels(self):
        self.assertEqual(["+" in ARITH, "*" in ARITH, "-" in ARITH, "neg" in ARITH], [True, True, False, False])
        for wrong in ODD + ["$", "E"]:
            self.assertIs(wrong in ARITH, False)
        self.assertEqual([ARITH.of_terminal(sign) for sign in ("+", "*", "-", "while")], [0, 1, None, None])
        for wrong in [value for value in ODD] + ["$", "E", "", "++", ["+"]]:
            with self.assertRaises(InvalidOperation):
                ARITH.of_terminal(wrong)

    def test_one_more_level(self):
        made = ARITH + ("right", ("^",))
        self.assertEqual((str(made), made.own, len(ARITH)), ("left +, left *, right ^", {"neg": 1}, 2))
        told = Levels(order=("b", "a")) + ("none", ())
        self.assertEqual((told.groups, told.order), ((("none", ()),), ("b", "a")))
        for wrong in ODD + [("left",), ["left", ()], ("left", ["+"]), ("left", ("b", "a")), ("left", ("a", "a")),
                            ("middle", ()), ("left", ("E",)), ("left", (), ()), (None, ())]:
            with self.assertRaises(InvalidOperation):
                ARITH + wrong
        with self.assertRaises(InvalidLevels):
            ARITH + ("none", ("*",))
        with self.assertRaises(InvalidLevels):
            Levels((("left", ()),) * 26) + ("left", ())


class TestErrors(unittest.TestCase):
    def test_groups(self):
        for wrong in [value for value in ODD if value != ()] + [
                ("left", ("+",)), (("left", ("+",)), ("right", ("+",))), (("left", ("+", "+")),), (("left", ("+", "*")),),
                (("left", ["+"]),), (["left", ("+",)],), (("middle", ()),), (("left",),), (("left", (), ()),),
                (("left", ("$",)),), (("left", ("E",)),), ((True, ()),), (("left", None),), (("left", "+"),),
                [("left", ())], (("left", ()),) * 27, {}]:
            with self.assertRaises(InvalidLevels):
                Levels(wrong)
            with self.assertRaises(InvalidLevels):
                Levels(groups=wrong, own=1, order=1)

    def test_own(self):
        groups = (("left", ()), ("left", ("+",)))
        for wrong in [value for value in ODD if value not in (None, {})] + [
                {"neg": 2}, {"neg": -1}, {"neg": True}, {"neg": False}, {"neg": "1"}, {"neg": (0,)}, {"shift": 0}, {"N": 0},
                {("neg",): 0}, {1: 0}, {"neg": 1, "accept": None}, {"neg": 10 ** 99}, [("neg", 0)]]:
            with self.assertRaises(InvalidLevels):
                Levels(groups, own=wrong)
        with self.assertRaises(InvalidLevels):
            Levels(own={"neg": 0})

    def test_order(self):
        for wrong in [value for value in ODD if value != ()] + [
                ("neg", "neg"), ["neg"], "neg", ("shift",), ("Neg",), ("neg", None), {"neg": 0}, ("neg", ("neg",))]:
            with self.assertRaises(InvalidLevels):
                Levels(order=wrong)

    def test_productions(self):
        for wrong in ODD + [("num", "E"), ["num", "E", ("n",)], ("num", "E", ["n"]), ("num", "e", ()), ("shift", "E", ()),
                            ("num", "E", ("n",) * 6), ("num", "E", ("$",)), "num"]:
            with self.assertRaises(InvalidOperation):
                ARITH.of_production(wrong)

    def test_prefers(self):
        for wrong in [value for value in ODD if not isinstance(value, Grammar)]:
            with self.assertRaises(InvalidGrammar):
                ARITH.prefers(wrong, None, None)
        for wrong in ODD + ["$", "E", "x", "num", "neg"]:
            with self.assertRaises(UnknownName) as caught:
                ARITH.prefers(SUMS, wrong, None)
            self.assertIs(caught.exception.wanted, wrong)
        for wrong in ODD + ["$", "E", "n", "shift", "accept", SUMS["num"]]:
            with self.assertRaises(UnknownName) as caught:
                ARITH.prefers(SUMS, "n", wrong)
            self.assertIs(caught.exception.wanted, wrong)

    def test_no_table(self):
        for wrong in ODD:
            with self.assertRaises(InvalidOperation):
                ARITH(wrong)


class TestMeaning(unittest.TestCase):
    def test_levels_of_productions(self):
        made = Levels((("left", ("+",)), ("right", ("*",))), own={"told": 0, "bare": None})
        for production, wanted in ((("a", "E", ("E", "+", "E")), 0), (("a", "E", ("+", "E", "*")), 1),
                                   (("a", "E", ("+", "n")), None), (("a", "E", ("E", "E")), None), (("a", "E", ()), None),
                                   (("told", "E", ("*",)), 0), (("told", "E", ()), 0), (("bare", "E", ("*",)), None),
                                   (("a", "E", ("n", "+", "E")), 0)):
            self.assertEqual(made.of_production(production), wanted)

    def test_preferences(self):
        made = Levels((("left", ("+",)), ("right", ("*",)), ("none", ("-",))))
        for terminal, name, wanted in (("+", "plus", "plus"), ("*", "plus", "shift"), ("+", "times", "times"),
                                       ("*", "times", "shift"), ("-", "neg", None), ("n", "plus", "shift"),
                                       ("+", "num", "shift"), ("+", "neg", "neg"), ("-", "times", "shift")):
            self.assertEqual(made.prefers(SUMS, terminal, name), wanted)

    def test_all_actions_against_plain_words(self):
        for grammar in told_grammars() + [THREE]:
            for levels in some_levels(grammar):
                for kind in KINDS:
                    table = Table(grammar, kind)
                    made = levels(table)
                    self.assertEqual(made, plain_resolution(levels, table), (grammar.lines, str(levels)))
                    self.assertEqual(list(made), sorted(made))
                    self.assertTrue(is_resolution(table, made))

    def test_three_actions_at_a_cell(self):
        table = Table(THREE)
        self.assertEqual(table.conflicts, {(1, "x"): ("ca", "cb", "shift")})
        self.assertEqual(Levels()(table)[(1, "x")], "shift")
        low = (("left", ("x",)),)
        for a, b in itertools.product((None, 0, 1, 2), repeat=2):
            for how in ("left", "right", "none"):
                for order in ((), ("ca", "cb"), ("cb",), ("ca",), ("cb", "ca"), ("zz", "cb")):
                    levels = Levels((("left", ()), (how, ("x",)), ("right", ())), own={"ca": a, "cb": b}, order=order)
                    self.assertEqual(levels(table), plain_resolution(levels, table))
        both = Levels(low, own={"ca": 0, "cb": 0})
        self.assertEqual(both(table)[(1, "x")], "ca")
        # The shift loses against the one, and wins against the other, which wins against the one.
        round_about = Levels(low, own={"ca": None, "cb": 0})
        self.assertNotIn((1, "x"), round_about(table))
        self.assertEqual(Levels(low, own={"ca": None, "cb": 0}, order=("cb",))(table)[(1, "x")], "cb")
        self.assertNotIn((1, "x"), Levels((("none", ("x",)),), own={"ca": 0, "cb": 0})(table))

    def test_orders(self):
        table = Table(PAIRS)
        for order, wanted in (((), "ca"), (("cb",), "cb"), (("ca",), "ca"), (("cb", "ca"), "cb"), (("zz", "cb"), "cb"),
                              (PAIRS.names[::-1], "cb"), (PAIRS.names, "ca"), (("one", "two"), "ca")):
            self.assertEqual(Levels(order=order)(table)[(4, "a")], wanted)

    def test_accept_wins(self):
        grammar = Grammar.from_lines("one: S -> S A", "two: S -> x", "three: A -> y", "four: A -> B z", "none: B ->")
        table = Table(grammar, "lr0")
        cell = (table.walk(("S",)), "$")
        self.assertEqual(table[cell], ("accept", "none"))
        for levels in (Levels(), Levels((("left", ("y",)),), own={"none": 0}, order=("none",))):
            self.assertEqual(levels(table)[cell], "accept")

    def test_twenty_six_levels(self):
        made = Levels(tuple(("left", (word,)) for word in WORDS))
        self.assertEqual((len(made), made.of_terminal("z"), made[25], str(made)[-6:]), (26, 25, "left", "left z"))
        words = ["else"] + WORDS[:24] + ["if"]
        for row, wanted in ((words, "cond"), (words[::-1], "shift")):
            self.assertEqual(Levels(tuple(("left", (word,)) for word in row))(Table(ELSE))[(4, "else")], wanted)

    def test_nothing_is_shared(self):
        own = {"neg": 1, "num": None}
        made = Levels(ARITH.groups, own=own)
        own["neg"] = 0
        made.own["neg"] = 0
        more = made + ("left", ())
        more.own.clear()
        self.assertEqual((made.own, more.own), ({"neg": 1, "num": None}, {"neg": 1, "num": None}))
        resolution = made(Table(NEST))
        resolution.clear()
        self.assertEqual(made(Table(NEST)), plain_resolution(made, Table(NEST)))


if __name__ == "__main__":
    unittest.main()
