"""Filters, edges and wishes [0.21] [8.1]."""

import unittest

from chosentrees.base.grammars import Grammar
from chosentrees.errors import InvalidFilter, InvalidGrammar, InvalidOperation, InvalidText, InvalidTree, InvalidWishes
from chosentrees.wish import filters
from chosentrees.wish.filters import Filter, Wishes, edge

from samples import ELSE, FAR, NEAR, NEST, ODD, PAIRS, SUMS, USUAL, chain_of, comb_of

BAR = ("child", "neg", 1, "plus")
NOT_BARS = [value for value in ODD] + [
    ("child", "neg", 1), ("child", "neg", 1, "plus", 0), ["child", "neg", 1, "plus"], ("Child", "neg", 1, "plus"),
    ("kid", "neg", 1, "plus"), (True, "neg", 1, "plus"), ("child", "Neg", 1, "plus"), ("child", "shift", 1, "plus"),
    ("child", "neg", True, "plus"), ("child", "neg", False, "plus"), ("child", "neg", -1, "plus"),
    ("child", "neg", 5, "plus"), ("child", "neg", "1", "plus"), ("child", "neg", None, "plus"), ("child", "neg", 1, "accept"),
    ("child", "neg", 1, ("plus",)), ("child", ("neg",), 1, "plus"), ("child", "neg", 10 ** 99, "plus"),
    (("child",), "neg", 1, "plus"), ("child", "neg", 1, "ninechars"), "child neg 1 plus"]


def bars_of(many):
    """So many different bars."""
    letters = "abcdefghijklmnopqrstuvwxyz"
    return tuple(("left", letter, index, "a") for letter in letters for index in range(5))[:many]


class TestFilters(unittest.TestCase):
    def test_constants(self):
        self.assertEqual((filters.HOWS, filters.MAX_BARS, filters.MAX_TREES), (("child", "left", "right"), 60, 20))

    def test_bars_and_signs(self):
        turned = Filter(USUAL.bars[::-1])
        self.assertEqual((turned.bars, turned == USUAL, turned != USUAL), (tuple(sorted(USUAL.bars)), True, False))
        self.assertEqual((list(turned), tuple(turned), len(turned), bool(turned), str(turned)),
                         (sorted(USUAL.bars), USUAL.bars, 6, True, "filter of 6 bars"))
        self.assertEqual((Filter().bars, list(Filter()), len(Filter()), bool(Filter()), str(Filter())),
                         ((), [], 0, False, "filter of 0 bars"))
        one, two = Filter((BAR, ("left", "plus", 0, "neg"))), Filter((BAR, ("right", "plus", 2, "neg")))
        self.assertEqual([(one | two).bars, (one & two).bars, (one - two).bars],
                         [(BAR, ("left", "plus", 0, "neg"), ("right", "plus", 2, "neg")), (BAR,),
                          (("left", "plus", 0, "neg"),)])
        self.assertEqual((one | Filter(), one & Filter(), Filter() - one), (one, Filter(), Filter()))
        self.assertTrue(one != two and not one == two and one != Filter())

    def test_children(self):
        self.assertEqual(Filter.children(("neg", 1, "plus"), ("neg", 1, "times")).bars,
                         (BAR, ("child", "neg", 1, "times")))
        self.assertEqual(Filter.children(), Filter())
        for wrong in (["neg", 1, "plus"], ("neg", 1), ("neg", 1, "plus", 0), None, True, "neg", ("neg", True, "plus"), (), {}):
            with self.assertRaises(InvalidFilter):
                Filter.children(("neg", 1, "num"), wrong)
        with self.assertRaises(InvalidFilter):
            Filter.children(("neg", 1, "plus"), ("neg", 1, "plus"))
        with self.assertRaises(InvalidFilter):
            Filter.children(*[bar[1:] for bar in bars_of(61)])

    def test_members(self):
        self.assertIs(BAR in USUAL, True)
        self.assertIs(("left", "neg", 1, "plus") in USUAL, False)
        self.assertIs(("child", "neg", True, "plus") in USUAL, False)
        for wrong in NOT_BARS:
            self.assertIs(wrong in USUAL, False)

    def test_parts(self):
        self.assertIs(Filter((BAR,)).is_part_of(USUAL), True)
        self.assertIs(USUAL.is_part_of(USUAL), True)
        self.assertIs(USUAL.is_part_of(Filter((BAR,))), False)
        self.assertIs(Filter().is_part_of(Filter()), True)
        for wrong in ODD + [USUAL.bars]:
            self.assertIs(Filter().is_part_of(wrong), False)

    def test_no_filters(self):
        for wrong in [value for value in ODD if value != ()] + [(bar,) for bar in NOT_BARS] + [
                (BAR, BAR), [BAR], {BAR: True}, BAR, bars_of(61), (BAR, ("child", "neg", 1))]:
            with self.assertRaises(InvalidFilter):
                Filter(wrong)
        self.assertEqual(len(Filter(bars_of(60))), 60)

    def test_signs_with_wrong_values(self):
        for wrong in ODD + [(), USUAL.bars, None]:
            for call in (lambda: USUAL | wrong, lambda: USUAL & wrong, lambda: USUAL - wrong):
                with self.assertRaises(InvalidOperation):
                    call()
            self.assertIs(USUAL == wrong, False)
        with self.assertRaises(InvalidFilter):
            Filter(bars_of(60)) | Filter((("right", "a", 0, "a"),))
        self.assertEqual(len(Filter(bars_of(60)) | Filter(bars_of(30))), 60)


class TestFits(unittest.TestCase):
    def test_bars_and_grammars(self):
        self.assertEqual([USUAL.fits(SUMS), USUAL.fits(ELSE), Filter().fits(ELSE)], [True, False, True])
        for bar, wanted in ((("child", "plus", 1, "num"), False), (("child", "plus", 0, "num"), True),
                            (("child", "plus", 3, "num"), False), (("child", "neg", 0, "num"), False),
                            (("left", "neg", 1, "none"), False), (("left", "none", 1, "num"), False),
                            (("right", "num", 0, "num"), False)):
            self.assertIs(Filter((bar,)).fits(SUMS), wanted)
        # The inner production need not have the nonterminal as its head, and a body can be empty.
        self.assertIs(Filter((("child", "push", 0, "base"),)).fits(NEST), True)
        self.assertIs(Filter((("child", "none", 0, "base"),)).fits(NEST), False)

    def test_no_grammar(self):
        for wrong in [value for value in ODD if not isinstance(value, Grammar)]:
            for call in (lambda: USUAL.fits(wrong), lambda: USUAL.broken(wrong, None), lambda: USUAL.allows(wrong, None),
                         lambda: next(USUAL.allowed(wrong, None)), lambda: edge(wrong, None, None, None),
                         lambda: Wishes().fit(wrong), lambda: Wishes().wants(wrong, None)):
                with self.assertRaises(InvalidGrammar):
                    call()

    def test_which_error_comes_first(self):
        far = Filter((("child", "cond", 1, "act"),))
        for wrong in ODD + [NEAR, chain_of(201), ("num", ["n"])]:
            for call in (far.broken, far.allows):
                with self.assertRaises(InvalidTree):
                    call(SUMS, wrong)
        for wrong in [value for value in ODD if value != ()] + [("x",), ("n",) * 61, "n"]:
            made = far.allowed(SUMS, wrong)
            with self.assertRaises(InvalidText):
                next(made)
        for call in (lambda: far.broken(SUMS, ("num", ("n",))), lambda: far.allows(SUMS, chain_of(200)),
                     lambda: next(far.allowed(SUMS, ("n",)))):
            with self.assertRaises(InvalidFilter):
                call()


class TestEdges(unittest.TestCase):
    def test_edges(self):
        tree = comb_of(5)
        self.assertEqual([edge(SUMS, tree, (), how) for how in ("left", "right", "child")],
                         [((), (0,), (0, 0)), ((), (2,)), ((),)])
        self.assertEqual(edge(SUMS, tree, (0,), "left"), ((0,), (0, 0)))
        self.assertEqual(edge(SUMS, chain_of(3), (), "left"), ((),))
        self.assertEqual(edge(SUMS, chain_of(3), (), "right"), ((), (1,), (1, 1)))
        self.assertEqual(len(edge(SUMS, chain_of(200), (), "right")), 200)
        self.assertEqual(edge(NEST, ("none", ()), (), "left"), ((),))
        nest = ("push", (("none", ()), ("base", ("c",)), "b"))
        self.assertEqual([edge(NEST, nest, (), how) for how in ("left", "right")], [((), (0,)), ((),)])

    def test_errors(self):
        for wrong in ODD + [NEAR, chain_of(201)]:
            with self.assertRaises(InvalidTree):
                edge(SUMS, wrong, None, None)
        for wrong in (None, True, 0, [], (0,), (1, 0), (2,), (True,), (-1,), "", {}):
            for how in ("left", "middle"):
                with self.assertRaises(InvalidOperation):
                    edge(SUMS, chain_of(2), wrong, how)
        for wrong in ODD + ["Left", "", "children", ("left",), ["left"]]:
            with self.assertRaises(InvalidOperation):
                edge(SUMS, chain_of(2), (), wrong)


class TestWishes(unittest.TestCase):
    def test_form(self):
        made = Wishes(USUAL, (chain_of(2), NEAR))
        self.assertEqual((made.bars, made.trees, len(made), str(made)),
                         (USUAL, (chain_of(2), NEAR), 2, "wishes with 6 bars and 2 trees"))
        self.assertEqual((Wishes().bars, Wishes().trees, len(Wishes()), str(Wishes())), (None, (), 0, "wishes with 0 trees"))
        self.assertEqual(str(Wishes(Filter())), "wishes with 0 bars and 0 trees")
        self.assertEqual(Wishes(bars=USUAL, trees=(NEAR,)), Wishes(USUAL) + NEAR)
        self.assertTrue(Wishes(USUAL) == Wishes(Filter(USUAL.bars)) and not Wishes(USUAL) != Wishes(USUAL))
        self.assertTrue(Wishes() != Wishes(Filter()) and Wishes(Filter()) != Wishes())
        self.assertTrue(Wishes(trees=(NEAR, FAR)) != Wishes(trees=(FAR, NEAR)))
        for value in ODD + [USUAL, ()]:
            self.assertIs(Wishes() == value, False)
        with self.assertRaises(TypeError):
            iter(Wishes())

    def test_errors(self):
        for wrong in [value for value in ODD if value is not None] + [USUAL.bars, ("child",)]:
            with self.assertRaises(InvalidFilter):
                Wishes(wrong, None)
        forms = [value for value in ODD if value not in ((), ("act", ("x",)))]
        for wrong in forms + [NEAR, [NEAR], (NEAR,) * 21, (NEAR, ["act", ("x",)])]:
            with self.assertRaises(InvalidTree):
                Wishes(USUAL, wrong)
        for wrong in forms + [(), ("act", ["x"]), ("act", ("x",), ()), ("shift", ()), ("act", ("X",)), ("act", ("$",)), (True, ()),
                              ("act", ("x",) * 6), ("act", (None,)), ("act", ("x", True)), chain_of(201),
                              ("act", (("act", ("x",) * 6),)), ("act", "x"), {"act": ("x",)}]:
            with self.assertRaises(InvalidTree):
                Wishes(trees=(wrong,))
            with self.assertRaises(InvalidTree):
                Wishes(USUAL) + wrong
        full = Wishes(trees=(NEAR,) * 20)
        self.assertEqual(len(full), 20)
        with self.assertRaises(InvalidTree):
            full + NEAR

    def test_forms_of_no_grammar(self):
        odd = ("any", ("while", ("none", ()), ("other", (("deep", ("+",)),)), "?", ":"))
        self.assertEqual(Wishes(trees=(odd, chain_of(200))).trees, (odd, chain_of(200)))
        self.assertIs(Wishes(trees=(odd,)).fit(SUMS), False)

    def test_fit(self):
        for made, wanted in ((Wishes(), True), (Wishes(Filter()), True), (Wishes(USUAL), True), (Wishes(trees=(NEAR,)), False),
                             (Wishes(USUAL, (chain_of(200),)), True), (Wishes(Filter((("child", "cond", 1, "act"),))), False),
                             (Wishes(USUAL, (chain_of(3), ("neg", ("-",)))), False)):
            self.assertIs(made.fit(SUMS), wanted)
        self.assertIs(Wishes(trees=(("ca", ("c",)),)).fit(PAIRS), False)

    def test_wants(self):
        deep = ("neg", ("-", comb_of(3)))
        self.assertEqual([made.wants(SUMS, deep) for made in (Wishes(), Wishes(Filter()), Wishes(USUAL), Wishes(USUAL, (deep,)),
                                                              Wishes(trees=(deep,)), Wishes(trees=(chain_of(2),)))],
                         [False, True, False, True, True, False])
        for wrong in ODD + [NEAR, chain_of(201)]:
            with self.assertRaises(InvalidTree):
                Wishes(trees=(NEAR,)).wants(SUMS, wrong)
        with self.assertRaises(InvalidTree):
            Wishes().wants(PAIRS, ("ca", ("c",)))
        for made in (Wishes(trees=(NEAR,)), Wishes(Filter((("child", "cond", 1, "act"),)), (chain_of(1),))):
            with self.assertRaises(InvalidWishes):
                made.wants(SUMS, chain_of(1))


if __name__ == "__main__":
    unittest.main()
