"""All chains of a production at a spot together.

The chains go through the symbols of the body from the last one to the first. Behind the symbols from a dot
on, a chain is told by its first so far, "" if all of these are empty. The layer of a dot has these firsts
for all chains.
"""

from chosentrees.base.symbols import is_nonterminal


class Layers:
    """The chains of a production at a spot, with some firsts for each spot. They never change."""

    def __init__(self, rule, spot, name, firsts):
        """Find the layers; there are none if no chain begins."""
        self._rule = rule
        self._spot = spot
        self._name = name
        self._firsts = firsts
        self._body = rule.body_of(name)
        self._trail = rule.trail(spot, name)
        self._rows = self._found_rows()

    def _found_rows(self):
        """The list of the layers of all dots: dicts from the firsts so far to True."""
        many = len(self._body)
        if self._trail is None:
            return [{} for _ in range(many + 1)]
        rows = [{"": True}]
        for dot in reversed(range(many)):
            rows.append(self._layer_ahead(dot, rows[-1]))
        return rows[::-1]

    def _layer_ahead(self, dot, layer):
        """The layer of a dot, by the layer behind its next symbol."""
        found = {}
        for first in layer:
            for wider in self._wider(dot, first):
                found[wider] = True
        return found

    def _part(self, dot, first):
        """The spot of the part behind a dot, by the first so far."""
        ahead = self._rule.ahead_of(self._spot) if first == "" else first
        return self._rule.part_spot(self._spot, self._name, dot, self._trail[dot], ahead)

    def _wider(self, dot, first):
        """The list of the firsts with which a chain can go on through the symbol behind a dot."""
        symbol = self._body[dot]
        if not is_nonterminal(symbol):
            return [symbol] if self._rule.lets_shift(self._trail[dot], symbol) else []
        inner = self._firsts.get(self._part(dot, first), ())
        return [first if each == "" else each for each in inner]

    def production(self):
        """The name of the production."""
        return self._name

    def is_whole(self):
        """Whether some chain is whole."""
        return len(self._rows[0]) > 0

    def whole_firsts(self):
        """The list of the firsts of whole chains."""
        return list(self._rows[0])

    def trail(self):
        """The trail of the production, or None."""
        return self._trail

    def parts_met(self):
        """The list of the spots to which chains come, also such that do not get whole."""
        return [self._part(dot, first) for dot, symbol in enumerate(self._body) if is_nonterminal(symbol)
                for first in self._rows[dot + 1]]

    def whole_parts(self):
        """The list of the spots to which whole chains come."""
        found = []
        whole = self._rows[0]
        for dot, symbol in enumerate(self._body):
            # Each chain of the layer ahead of the dot gets whole; of those behind it only some do.
            ended = {first: True for first in self._rows[dot + 1]
                     if any([wider in whole for wider in self._wider(dot, first)])}
            if is_nonterminal(symbol):
                found.extend([self._part(dot, first) for first in ended])
            whole = ended
        return found

    def whole_rows(self):
        """The list of the different pairs of a first and the spots of all parts, from the left, of whole chains."""
        rows = [("", ())] if self._trail is not None else []
        for dot in reversed(range(len(self._body))):
            rows = self._rows_ahead(dot, rows)
        return rows

    def _rows_ahead(self, dot, rows):
        """The list of the different pairs of a first and the spots of parts from a dot on, by those behind it."""
        found = {}
        for first, parts in rows:
            added = (self._part(dot, first),) if is_nonterminal(self._body[dot]) else ()
            for wider in self._wider(dot, first):
                found[(wider, added + parts)] = True
        return list(found)

    def has_first(self, first):
        """Whether some whole chain has this first."""
        return first in self._rows[0]

    def links(self, dot, first):
        """The list of (first, part): how chains that have a first from a dot on go on through the symbol behind it.

        The first is the one behind this symbol. The part is a pair of the spot and the first of a nonterminal,
        or None. Each chain that comes to the first behind the symbol can go on so.
        """
        if not is_nonterminal(self._body[dot]):
            return [(behind, None) for behind in self._rows[dot + 1] if first in self._wider(dot, behind)]
        found = []
        for behind in self._rows[dot + 1]:
            part = self._part(dot, behind)
            found.extend([(behind, (part, own)) for own in self._firsts.get(part, ())
                          if (behind if own == "" else own) == first])
        return found

    def used_parts(self, first):
        """The list of the pairs of a spot and a first with which whole chains with this first go on at their parts."""
        found = []
        heads = [first]
        for dot in range(len(self._body)):
            links = [link for head in heads for link in self.links(dot, head)]
            found.extend([part for behind, part in links if part is not None])
            heads = list({behind: True for behind, part in links})
        return found

    def used_rows(self, first, limit):
        """The list of the different rows of parts with which whole chains with this first go on.

        A part is a terminal, or the pair of a spot and a first. If there are more rows than the limit, some are
        left out, but not so many that there are not more than the limit.
        """
        rows = [((), first)]
        for dot, symbol in enumerate(self._body):
            links = {head: self.links(dot, head) for parts, head in rows}
            # Each beginning of a row is that of a whole one, and different ones are those of different ones.
            rows = [((*parts, symbol if part is None else part), behind) for parts, head in rows
                    for behind, part in links[head]][:limit + 1]
        return [parts for parts, behind in rows]


def all_layers(rule, spot, firsts):
    """The list of the layers of all productions at a spot."""
    return [Layers(rule, spot, name, firsts) for name in rule.names_below(rule.symbol_of(spot))]
