"""Spots, chains and surveys, told plainly: by recursion over all chains, until nothing is added."""


class ByFilter:
    """The rule by a filter, and by a parser with the spots of a filter."""

    def __init__(self, table, bars, resolution=None):
        self.table, self.grammar, self.bars, self.resolution = table, table.grammar, bars, resolution
        self.whole = (0, self.grammar.start, "$", (), (), ())

    def lets(self, cell, action):
        """Whether a demand is let."""
        return self.resolution is None or self.resolution.get(cell) == action

    def nonterminal(self, spot):
        """The nonterminal."""
        return spot[1]

    def after(self, spot):
        """The next."""
        return spot[2]

    def walk(self, spot, row):
        """The state to which a row leads from that of a spot, or None."""
        state = spot[0]
        for symbol in row:
            state = None if state is None else self.table.after(state, symbol)
        return state

    def begins(self, spot, name):
        """Whether chains begin."""
        state = self.walk(spot, self.grammar[name][2])
        if self.resolution is None and name in spot[3] + spot[4] + spot[5]:
            return False
        return state is not None and self.lets((state, spot[2]), name)

    def lets_shift(self, spot, row, terminal):
        """Whether a terminal behind a row is let."""
        return self.lets((self.walk(spot, row), terminal), "shift")

    def part(self, spot, name, index, after):
        """The spot of a part."""
        body = self.grammar[name][2]
        told = {how: {bar[3] for bar in self.bars if bar[:3] == (how, name, index)} for how in ("child", "left", "right")}
        if index == 0:
            told["left"] |= set(spot[4])
        if index == len(body) - 1:
            told["right"] |= set(spot[5])
        state = self.walk(spot, body[:index])
        return (state, body[index], after) + tuple(tuple(sorted(told[how])) for how in ("child", "left", "right"))

    def demands(self, spot, name):
        """The demands of whole chains."""
        body = self.grammar[name][2]
        found = {((self.walk(spot, body), spot[2]), name)}
        for index, symbol in enumerate(body):
            if not symbol[0].isupper():
                found.add(((self.walk(spot, body[:index]), symbol), "shift"))
        return tuple(sorted(found))

    def lets_accept(self):
        """Whether the end is let."""
        return self.lets((self.table.walk((self.grammar.start,)), "$"), "accept")


class ByPair(ByFilter):
    """The rule by the first of two parsers, with the states of both."""

    def __init__(self, parser, other):
        super().__init__(parser.table, (), parser.resolution)
        self.other = other.table
        self.whole = (0, 0, self.grammar.start, "$")

    def nonterminal(self, spot):
        """The nonterminal."""
        return spot[2]

    def after(self, spot):
        """The next."""
        return spot[3]

    def other_walk(self, spot, row):
        """The state of the second parser to which a row leads, or None."""
        state = spot[1]
        for symbol in row:
            state = None if state is None else self.other.after(state, symbol)
        return state

    def begins(self, spot, name):
        """Whether chains begin."""
        body = self.grammar[name][2]
        state = self.walk(spot, body)
        return None not in (state, self.other_walk(spot, body)) and self.lets((state, spot[3]), name)

    def part(self, spot, name, index, after):
        """The spot of a part."""
        body = self.grammar[name][2]
        return self.walk(spot, body[:index]), self.other_walk(spot, body[:index]), body[index], after


def chains(rule, spot, name, firsts):
    """All chains, whole or not: triples (whether whole, firsts of all symbols passed, spots come to), from the left."""
    body = rule.grammar[name][2]
    if not rule.begins(spot, name):
        return []
    found, ended = [((), ())], []
    for index in reversed(range(len(body))):
        longer = []
        for row, met in found:
            after = next((first for first in row if first), rule.after(spot))
            if not body[index][0].isupper():
                if rule.lets_shift(spot, body[:index], body[index]):
                    longer.append(((body[index],) + row, met))
            else:
                part = rule.part(spot, name, index, after)
                ended.append((False, (), (part,)))
                longer += [((first,) + row, (part,) + met) for first in firsts.get(part, ())]
        found = longer
    return ended + [(True, row, met) for row, met in found]


def first_of(row):
    """The first of a whole chain."""
    return next((first for first in row if first), "")


def all_chains(rule, spot, firsts):
    """All chains at a spot."""
    return [chain for name in rule.grammar.of(rule.nonterminal(spot)) for chain in chains(rule, spot, name, firsts)]


def closure(rule, firsts=None, spots=()):
    """The least closed survey that has these firsts and spots, too."""
    known = {spot: set(row) for spot, row in (firsts or {}).items()}
    known.setdefault(rule.whole, set())
    growing = True
    while growing:
        growing = False
        for spot in list(known):
            for is_whole, row, met in all_chains(rule, spot, known):
                for part in met:
                    growing = growing or part not in known
                    known.setdefault(part, set())
                if is_whole and first_of(row) not in known[spot]:
                    known[spot].add(first_of(row))
                    growing = True
    made = {spot: tuple(sorted(known[spot])) for spot in sorted(known)}
    found = set(spots) | ({rule.whole} if made[rule.whole] and rule.lets_accept() else set())
    waiting = list(found)
    while waiting:
        for is_whole, row, met in all_chains(rule, waiting.pop(), made):
            for part in met if is_whole else ():
                if part not in found:
                    found.add(part)
                    waiting.append(part)
    return made, tuple(sorted(found))


def is_closed(rule, firsts, spots):
    """Whether a survey in the right form is closed."""
    if rule.whole not in firsts:
        return False
    for spot in firsts:
        for is_whole, row, met in all_chains(rule, spot, firsts):
            if any(part not in firsts for part in met) or (is_whole and first_of(row) not in firsts[spot]):
                return False
    if firsts[rule.whole] and rule.lets_accept() and rule.whole not in spots:
        return False
    return all(part in spots for spot in spots for is_whole, row, met in all_chains(rule, spot, firsts) if is_whole
               for part in met)


def tree_spots(rule, tree):
    """The pairs of a spot and a first of all nodes of a tree, from the whole one inwards."""
    def ahead(part):
        return part if isinstance(part, str) else next((first for first in map(ahead, part[1]) if first), "")

    found, waiting = [], [(rule.whole, tree)]
    while waiting:
        spot, node = waiting.pop()
        found.append((spot, ahead(node)))
        for index, part in enumerate(node[1]):
            if not isinstance(part, str):
                after = next((first for first in map(ahead, node[1][index + 1:]) if first), rule.after(spot))
                waiting.append((rule.part(spot, node[0], index, after), part))
    return found
