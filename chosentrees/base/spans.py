"""Where texts of symbols end in a text.

Indices are kept in masks: the bit of each index at which a text can end is set.
"""

from chosentrees.base.symbols import is_nonterminal


def members(mask):
    """The list of the indices of the bits of a mask, ascending."""
    return [index for index in range(mask.bit_length()) if (mask >> index) & 1]


class Ends:
    """Where texts end, in a text, of nonterminals and of what stands behind dots. They never change.

    Productions are told by their indices.
    """

    def __init__(self, grammar, text):
        """Find the ends of all nonterminals, from the last beginning to the first one."""
        self._nonterminals = grammar.nonterminals
        self._heads = [head for name, head, body in grammar.productions]
        self._bodies = [body for name, head, body in grammar.productions]
        self._places = {terminal: 0 for terminal in grammar.terminals}
        for index, terminal in enumerate(text):
            self._places[terminal] = self._places[terminal] | (1 << index)
        self._ends = {}
        self._behind = {}
        for begin in list(range(len(text) + 1))[::-1]:
            self._begin_at(begin)

    def _begin_at(self, begin):
        """Find the ends for a beginning; those for all later ones are known."""
        for symbol in self._nonterminals:
            self._ends[(symbol, begin)] = 0
        reached = [[1 << begin] + [0] * len(body) for body in self._bodies]
        passed = [[0] * len(body) for body in self._bodies]
        growing = True
        while growing:
            growing = False
            for index, head in enumerate(self._heads):
                self._go_on(index, begin, reached[index], passed[index])
                wider = self._ends[(head, begin)] | reached[index][-1]
                growing = growing or wider != self._ends[(head, begin)]
                self._ends[(head, begin)] = wider

    def _go_on(self, index, begin, reached, passed):
        """Add to the masks that are reached behind each symbol of a body what follows from those ahead of it.

        Indices behind the beginning that have been passed need not be passed again.
        """
        for dot, symbol in enumerate(self._bodies[index]):
            here = reached[dot]
            if not is_nonterminal(symbol):
                reached[dot + 1] = (here & self._places[symbol]) << 1
                continue
            found = reached[dot + 1]
            if (here >> begin) & 1:
                found = found | self._ends[(symbol, begin)]
            later = here & ~(1 << begin)
            for middle in members(later & ~passed[dot]):
                found = found | self._ends[(symbol, middle)]
            passed[dot] = later
            reached[dot + 1] = found

    def of(self, symbol, begin):
        """The mask of the ends of the texts of a nonterminal that begin at an index."""
        return self._ends[(symbol, begin)]

    def behind(self, index, dot, begin):
        """The mask of the ends of what stands behind a dot in a production, from an index on."""
        key = (index, dot, begin)
        if key not in self._behind:
            self._behind[key] = self._found_behind(index, dot, begin)
        return self._behind[key]

    def _found_behind(self, index, dot, begin):
        """The same, found by the symbol behind the dot."""
        body = self._bodies[index]
        if dot == len(body):
            return 1 << begin
        if not is_nonterminal(body[dot]):
            is_there = (self._places[body[dot]] >> begin) & 1
            return self.behind(index, dot + 1, begin + 1) if is_there else 0
        mask = 0
        for middle in members(self._ends[(body[dot], begin)]):
            mask = mask | self.behind(index, dot + 1, middle)
        return mask

    def middles(self, index, dot, begin, end):
        """The list of the ends of the nonterminal behind a dot from which the rest comes to an end."""
        return [middle for middle in members(self._ends[(self._bodies[index][dot], begin)])
                if (self.behind(index, dot + 1, middle) >> end) & 1]
