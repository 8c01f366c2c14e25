"""Terminals, nonterminals and names of productions, and rows of terminals."""

from chosentrees.errors import InvalidText, ParseError

END = "$"
SIGNS = "!&()*+,-./:;<=>?[]^|"
MAX_LETTERS = 8
MAX_TEXT = 60
SMALL_LETTERS = "abcdefghijklmnopqrstuvwxyz"
LARGE_LETTERS = "ABCDEFGHIJKLMNOPQRSTUVWXYZ"
MAX_SMALL_BEHIND = 5
# Tables have these two beside the names of productions as actions.
OTHER_ACTIONS = ("shift", "accept")


def has_small_letters(text):
    """Whether all characters of a string, perhaps none, are small letters."""
    return all([letter in SMALL_LETTERS for letter in text])


def is_word(value):
    """Whether the value is a string of one to eight small letters."""
    return isinstance(value, str) and 1 <= len(value) <= MAX_LETTERS and has_small_letters(value)


def is_terminal(value):
    """Whether the value is a terminal."""
    if is_word(value):
        return True
    return isinstance(value, str) and len(value) == 1 and value in SIGNS


def is_nonterminal(value):
    """Whether the value is a nonterminal."""
    if not isinstance(value, str) or not 1 <= len(value) <= 1 + MAX_SMALL_BEHIND:
        return False
    return value[0] in LARGE_LETTERS and has_small_letters(value[1:])


def is_symbol(value):
    """Whether the value is a terminal or a nonterminal."""
    return is_terminal(value) or is_nonterminal(value)


def is_name(value):
    """Whether the value can be the name of a production."""
    return is_word(value) and value not in OTHER_ACTIONS


def is_terminals(value):
    """Whether the value is a tuple of at most 60 terminals."""
    if not isinstance(value, tuple) or len(value) > MAX_TEXT:
        return False
    return all([is_terminal(each) for each in value])


def text_order(text):
    """What texts, of any length, are compared by when the least one is looked for."""
    return len(text), text


def is_before(one, other):
    """Whether one tuple of terminals is less than another one, in the sense of least texts."""
    for text in (one, other):
        if not is_terminals(text):
            raise InvalidText("a text is a tuple of at most 60 terminals")
    return text_order(one) < text_order(other)


def write_terminals(text):
    """The terminals with single blanks between them."""
    if not is_terminals(text):
        raise InvalidText("a text is a tuple of at most 60 terminals")
    return " ".join(text)


def read_terminals(line):
    """The tuple of terminals that is written so."""
    if not isinstance(line, str):
        raise ParseError(None)
    # Splitting the empty line would give one empty word.
    text = tuple(line.split(" ")) if line != "" else ()
    if not is_terminals(text):
        raise ParseError(None)
    return text
