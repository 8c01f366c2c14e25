"""Productions, grammars, and grammars with other names."""

from chosentrees.base.derived import least_texts, leads_to_all, nonterminals_of, repeats_text, terminals_of
from chosentrees.base.derived import tree_firsts, tree_nexts
from chosentrees.base.symbols import MAX_TEXT, is_name, is_nonterminal, is_symbol, is_terminal
from chosentrees.errors import InvalidGrammar, InvalidOperation, ParseError, TooMany, UnknownName

MAX_PRODUCTIONS = 16
MAX_BODY = 5
MAX_NONTERMINALS = 6
MAX_TERMINALS = 10


def is_body(value):
    """Whether the value can be the body of a production."""
    if not isinstance(value, tuple) or len(value) > MAX_BODY:
        return False
    return all([is_symbol(symbol) for symbol in value])


def is_production(value):
    """Whether the value is a production of some grammar."""
    if not isinstance(value, tuple) or len(value) != 3:
        return False
    name, head, body = value
    return is_name(name) and is_nonterminal(head) and is_body(body)


def write_production(production):
    """The line of a production."""
    name, head, body = production
    return " ".join([f"{name}:", head, "->", *body])


def read_production(line):
    """The production that has this line, or None if the value is no such line."""
    if not isinstance(line, str):
        return None
    words = line.split(" ")
    if len(words) < 3 or not words[0].endswith(":") or words[2] != "->":
        return None
    production = (words[0][:-1], words[1], tuple(words[3:]))
    return production if is_production(production) else None


def form_fault(productions):
    """What the productions have that a grammar has not, trees aside, as a message, or None."""
    if not isinstance(productions, tuple) or not 1 <= len(productions) <= MAX_PRODUCTIONS:
        return "a grammar has a tuple of one to sixteen productions"
    if not all([is_production(each) for each in productions]):
        return "a value is no production"
    if len({each[0] for each in productions}) < len(productions):
        return "two productions have the same name"
    if len({each[1:] for each in productions}) < len(productions):
        return "two productions have the same head and body"
    if len(nonterminals_of(productions)) > MAX_NONTERMINALS:
        return "there are more than six nonterminals"
    if len(terminals_of(productions)) > MAX_TERMINALS:
        return "there are more than ten terminals"
    return None


def tree_fault(productions):
    """What is wrong with the trees of productions in the right form, as a message, or None."""
    texts = least_texts(productions)
    if not all([symbol in texts for symbol in nonterminals_of(productions)]):
        return "a nonterminal has no tree"
    if not leads_to_all(productions):
        return "the start does not lead to a nonterminal"
    if repeats_text(productions, texts):
        return "a node can have the text of a node of the same nonterminal around it"
    return None


class Grammar:
    """A tuple of productions with which each text has finitely many trees. It never changes."""

    def __init__(self, productions):
        """Check the productions, and find out what their trees have."""
        fault = form_fault(productions)
        if fault is None:
            fault = tree_fault(productions)
        if fault is not None:
            raise InvalidGrammar(f"no grammar: {fault}")
        self._productions = productions
        self._terminals = terminals_of(productions)
        self._nonterminals = nonterminals_of(productions)
        self._leasts = least_texts(productions)
        self._firsts = tree_firsts(productions)
        self._nexts = tree_nexts(productions, self._firsts)

    @classmethod
    def from_lines(cls, *lines):
        """The grammar with the productions of these lines, in this order."""
        productions = []
        for index, line in enumerate(lines):
            production = read_production(line)
            if production is None:
                raise ParseError(index)
            productions.append(production)
        return cls(tuple(productions))

    @property
    def productions(self):
        """The productions, in the given order."""
        return self._productions

    @property
    def names(self):
        """The names of the productions, in the given order."""
        return tuple([production[0] for production in self._productions])

    @property
    def start(self):
        """The head of the first production."""
        return self._productions[0][1]

    @property
    def terminals(self):
        """The terminals, ascending."""
        return self._terminals

    @property
    def nonterminals(self):
        """The nonterminals, ascending."""
        return self._nonterminals

    @property
    def lines(self):
        """The lines of the productions, in the given order."""
        return tuple([write_production(production) for production in self._productions])

    def _has_name(self, value):
        """Whether the value is the name of a production."""
        return is_name(value) and value in self.names

    def _check_nonterminal(self, value):
        """Raise an error if the value is no nonterminal of the grammar."""
        if not is_nonterminal(value) or value not in self._nonterminals:
            raise UnknownName(value)

    def of(self, nonterminal):
        """The names of the productions with this head, in the given order."""
        self._check_nonterminal(nonterminal)
        return tuple([name for name, head, body in self._productions if head == nonterminal])

    def firsts(self, nonterminal):
        """The ascending tuple of the firsts of its trees."""
        self._check_nonterminal(nonterminal)
        return self._firsts[nonterminal]

    def follows(self, nonterminal):
        """The ascending tuple of the nexts of its nodes in trees of the grammar."""
        self._check_nonterminal(nonterminal)
        return self._nexts[nonterminal]

    def least(self, nonterminal):
        """The least text of its trees."""
        self._check_nonterminal(nonterminal)
        text = self._leasts[nonterminal]
        if len(text) > MAX_TEXT:
            raise TooMany(MAX_TEXT)
        return text

    def is_part_of(self, value):
        """Whether the value is a grammar with the same start that has all productions of this one."""
        if not isinstance(value, Grammar) or value.start != self.start:
            return False
        return all([production in value.productions for production in self._productions])

    def __getitem__(self, at):
        """The production with this name."""
        if not self._has_name(at):
            raise UnknownName(at)
        return self._productions[self.names.index(at)]

    def __contains__(self, x):
        """Whether the value is a production of the grammar, or the name of one."""
        return self._has_name(x) or (is_production(x) and x in self._productions)

    def __len__(self):
        """The number of productions."""
        return len(self._productions)

    def __iter__(self):
        """The productions, in the given order."""
        return iter(self._productions)

    def __eq__(self, other):
        """Whether the other one is a grammar with equal productions in the same order."""
        return isinstance(other, Grammar) and self._productions == other._productions

    def __str__(self):
        """How many productions there are."""
        return f"grammar of {len(self._productions)} productions"

    def __add__(self, other):
        """The grammar with this production behind the others."""
        if not is_production(other):
            raise InvalidOperation("only a production is added")
        return Grammar(self._productions + (other,))

    def __sub__(self, other):
        """The grammar without the production with this name."""
        if not self._has_name(other):
            raise UnknownName(other)
        return Grammar(tuple([production for production in self._productions if production[0] != other]))

    def __or__(self, other):
        """The productions of this grammar, then those of the other that this one does not have."""
        if not isinstance(other, Grammar):
            raise InvalidOperation("only a grammar is joined")
        added = [production for production in other.productions if production not in self._productions]
        return Grammar(self._productions + tuple(added))


def is_of_same_sort(old, new):
    """Whether both values are terminals, or both are nonterminals."""
    return (is_terminal(old) and is_terminal(new)) or (is_nonterminal(old) and is_nonterminal(new))


def are_names(old, new):
    """Whether both values can be names of productions."""
    return is_name(old) and is_name(new)


def all_changes(words, changes, is_right):
    """A dict from all words to what they become, by a dict of changes that are right, or None."""
    told = {} if changes is None else changes
    if not isinstance(told, dict):
        raise InvalidOperation("changes are given by a dict")
    for old, new in told.items():
        if old not in words or not is_right(old, new):
            raise InvalidOperation("a word of the grammar becomes another one of its sort")
    found = {word: told.get(word, word) for word in words}
    if len(set(list(found.values()))) < len(words):
        raise InvalidOperation("two words would be equal")
    return found


def renamed(grammar, *, symbols=None, names=None):
    """The grammar with other symbols and names, its productions in the same order."""
    if not isinstance(grammar, Grammar):
        raise InvalidGrammar("only a grammar is renamed")
    new_symbols = all_changes(grammar.terminals + grammar.nonterminals, symbols, is_of_same_sort)
    new_names = all_changes(grammar.names, names, are_names)
    return Grammar(tuple([
        (new_names[name], new_symbols[head], tuple([new_symbols[symbol] for symbol in body]))
        for name, head, body in grammar.productions
    ]))
