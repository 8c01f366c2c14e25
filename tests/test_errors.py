"""The error classes [1.1] [1.2]."""

import unittest

from chosentrees import errors

PLAIN = ["InvalidGrammar", "InvalidTree", "InvalidText", "InvalidResolution", "InvalidLevels", "InvalidFilter",
         "InvalidWishes", "InvalidOperation"]
KEEPING = [("UnknownName", KeyError, "wanted"), ("NothingToUndo", IndexError, "many"),
           ("TooMany", OverflowError, "limit"), ("InvalidNumber", RuntimeError, "given"),
           ("Refused", ArithmeticError, "reason")]


class TestErrors(unittest.TestCase):
    def test_grammar_error_is_directly_below_value_error(self):
        self.assertEqual(errors.GrammarError.__bases__, (ValueError,))

    def test_grammar_errors_are_directly_below_grammar_error(self):
        for name in PLAIN + ["ParseError"]:
            with self.subTest(name=name):
                self.assertEqual(getattr(errors, name).__bases__, (errors.GrammarError,))

    def test_all_classes_differ(self):
        names = ["GrammarError", "ParseError"] + PLAIN + [name for name, base, word in KEEPING]
        classes = [getattr(errors, name) for name in names]
        self.assertEqual(len(set(classes)), 15)
        self.assertEqual([each.__name__ for each in classes], names)

    def test_they_are_defined_here(self):
        for name in ["GrammarError", "ParseError"] + PLAIN + [name for name, base, word in KEEPING]:
            with self.subTest(name=name):
                self.assertEqual(getattr(errors, name).__module__, "chosentrees.errors")

    def test_no_error_is_caught_as_another_one(self):
        names = PLAIN + ["ParseError"]
        for one in names:
            for other in names:
                if one != other:
                    self.assertFalse(issubclass(getattr(errors, one), getattr(errors, other)), (one, other))

    def test_plain_ones_take_a_message(self):
        for name in PLAIN + ["GrammarError"]:
            with self.subTest(name=name):
                made = getattr(errors, name)("a message")
                self.assertEqual(str(made), "a message")
                with self.assertRaises(errors.GrammarError):
                    raise made

    def test_parse_error_keeps_its_line(self):
        for line in (None, 0, 3, 17):
            made = errors.ParseError(line)
            self.assertEqual(made.line, line)
            with self.assertRaises(errors.GrammarError) as caught:
                raise made
            self.assertEqual(caught.exception.line, line)
        self.assertIsNone(errors.ParseError(None).line)

    def test_others_are_directly_derived(self):
        for name, base, word in KEEPING:
            with self.subTest(name=name):
                self.assertEqual(getattr(errors, name).__bases__, (base,))
                self.assertFalse(issubclass(getattr(errors, name), errors.GrammarError))

    def test_others_keep_their_argument(self):
        for name, base, word in KEEPING:
            for kept in (0, 60, None, True, "E", ("clash", (4, "else"), ()), ["x"], 10 ** 99):
                with self.subTest(name=name, kept=kept):
                    made = getattr(errors, name)(kept)
                    self.assertIs(getattr(made, word), kept)
                    with self.assertRaises(base) as caught:
                        raise made
                    self.assertIs(getattr(caught.exception, word), kept)


if __name__ == "__main__":
    unittest.main()
