"""What productions lead to: least texts, nonterminals, firsts and nexts.

The functions take a tuple of productions that need not be a grammar, except where they say so.
"""

from chosentrees.base.symbols import END, is_nonterminal, is_terminal, text_order


def nonterminals_of(productions):
    """The ascending tuple of the nonterminals in the heads and bodies."""
    heads = [head for name, head, body in productions]
    parts = [symbol for name, head, body in productions for symbol in body if is_nonterminal(symbol)]
    return tuple(sorted(set(heads + parts)))


def terminals_of(productions):
    """The ascending tuple of the terminals in the bodies."""
    return tuple(sorted({symbol for name, head, body in productions for symbol in body if is_terminal(symbol)}))


def body_text(body, texts):
    """The text of a body by a text for each nonterminal, or None if one of them has none."""
    parts = [texts.get(symbol) if is_nonterminal(symbol) else (symbol,) for symbol in body]
    if None in parts:
        return None
    return tuple([terminal for part in parts for terminal in part])


def better_texts(productions, texts):
    """For each nonterminal the least text that its bodies have with these texts."""
    found = {}
    for name, head, body in productions:
        text = body_text(body, texts)
        if text is not None:
            found.setdefault(head, []).append(text)
    return {head: min(found[head], key=text_order) for head in found}


def least_texts(productions):
    """A dict from each nonterminal that has a tree to its least text.

    Each round allows trees that are higher by one. A tree with a least text need not have a
    nonterminal below itself, so with few nonterminals the texts stay short and the rounds few.
    """
    texts = {}
    while True:
        better = better_texts(productions, texts)
        if better == texts:
            return texts
        texts = better


def part_arrows(productions):
    """The pairs of a nonterminal and one that stands in a body of it."""
    return [(head, symbol) for name, head, body in productions for symbol in body if is_nonterminal(symbol)]


def same_text_arrows(productions, texts):
    """The pairs of a nonterminal and one in a body of it that can have the same text.

    This is so if all other parts can be empty, which `texts`, the least texts, tell.
    """
    found = []
    for name, head, body in productions:
        for index, symbol in enumerate(body):
            others = body[:index] + body[index + 1:]
            if is_nonterminal(symbol) and body_text(others, texts) == ():
                found.append((head, symbol))
    return found


def reached(start, arrows):
    """The list of what walks of at least one of the arrows lead to from the start."""
    found = [end for begin, end in arrows if begin == start]
    at = 0
    while at < len(found):
        for begin, end in arrows:
            if begin == found[at] and end not in found:
                found.append(end)
        at = at + 1
    return found


def leads_to_all(productions):
    """Whether the head of the first production leads to all nonterminals."""
    start = productions[0][1]
    found = reached(start, part_arrows(productions))
    return all([symbol == start or symbol in found for symbol in nonterminals_of(productions)])


def repeats_text(productions, texts):
    """Whether a node can have the text of a node of the same nonterminal around it."""
    arrows = same_text_arrows(productions, texts)
    return any([head in reached(head, arrows) for head in nonterminals_of(productions)])


def row_firsts(row, firsts):
    """The list of the firsts of what a row of symbols leads to, by the firsts of the nonterminals."""
    found = []
    for symbol in row:
        own = firsts[symbol] if is_nonterminal(symbol) else (symbol,)
        found.extend([first for first in own if first != ""])
        if "" not in own:
            return found
    found.append("")
    return found


def body_firsts(nonterminal, productions, firsts):
    """The ascending tuple of the firsts that the bodies of a nonterminal have with these firsts."""
    bodies = [body for name, head, body in productions if head == nonterminal]
    return tuple(sorted({first for body in bodies for first in row_firsts(body, firsts)}))


def tree_firsts(productions):
    """A dict from each nonterminal of a grammar to the ascending tuple of the firsts of its trees."""
    firsts = {symbol: () for symbol in nonterminals_of(productions)}
    while True:
        wider = {symbol: body_firsts(symbol, productions, firsts) for symbol in firsts}
        if wider == firsts:
            return firsts
        firsts = wider


def row_nexts(behind, firsts, after):
    """The list of what can come next: the firsts of the symbols behind, or `after` if they can be empty."""
    found = []
    for first in row_firsts(behind, firsts):
        if first == "":
            found.extend(after)
        else:
            found.append(first)
    return found


def part_nexts(nonterminal, productions, firsts, nexts):
    """The list of what can come next at the places of a nonterminal in the bodies, with these nexts."""
    found = []
    for name, head, body in productions:
        for index, symbol in enumerate(body):
            if symbol == nonterminal:
                found.extend(row_nexts(body[index + 1:], firsts, nexts[head]))
    return found


def tree_nexts(productions, firsts):
    """A dict from each nonterminal of a grammar to the ascending tuple of the nexts of its nodes.

    The nodes are those in trees of the start; `firsts` are the firsts of all trees.
    """
    start = productions[0][1]
    ends = {symbol: [END] if symbol == start else [] for symbol in firsts}
    nexts = {symbol: () for symbol in firsts}
    while True:
        wider = {symbol: tuple(sorted(set(ends[symbol] + part_nexts(symbol, productions, firsts, nexts))))
                 for symbol in firsts}
        if wider == nexts:
            return nexts
        nexts = wider
