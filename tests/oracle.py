"""What grammars are and have, told slowly: from all texts of few terminals."""

MOST = 8


def heads_of(productions):
    """The heads, each once."""
    return list(dict.fromkeys(head for name, head, body in productions))


def part_choices(body, texts, most=MOST):
    """All tuples of texts of the parts with at most so many terminals together."""
    found = [((), 0)]
    for symbol in body:
        choices = texts.get(symbol, set()) if symbol[0].isupper() else {(symbol,)}
        found = [(parts + (text,), many + len(text)) for parts, many in found for text in choices
                 if many + len(text) <= most]
    return [parts for parts, many in found]


def joined(parts):
    """One text of all parts."""
    return tuple(terminal for part in parts for terminal in part)


def all_texts(productions):
    """A dict from each head to the set of its texts with at most MOST terminals."""
    texts = {head: set() for head in heads_of(productions)}
    growing = True
    while growing:
        growing = False
        for name, head, body in productions:
            more = {joined(parts) for parts in part_choices(body, texts)} - texts[head]
            growing = growing or more != set()
            texts[head] |= more
    return texts


def has_loop(arrows):
    """Whether some walk of arrows comes back."""
    ahead = {begin: {end for one, end in arrows if one == begin} for begin, other in arrows}
    while ahead:
        ended = [begin for begin in ahead if not any(end in ahead for end in ahead[begin])]
        if not ended:
            return True
        for begin in ended:
            del ahead[begin]
    return False


def repeats(productions, texts):
    """Whether a node has the text of one of the same nonterminal around it, by all choices of texts."""
    arrows = set()
    for name, head, body in productions:
        for parts in part_choices(body, texts):
            for symbol, part in zip(body, parts):
                if symbol[0].isupper() and part == joined(parts):
                    arrows.add(((head, joined(parts)), (symbol, part)))
    return has_loop(arrows)


def reached(productions):
    """The nonterminals to which the start leads."""
    found = {productions[0][1]}
    while True:
        more = {symbol for name, head, body in productions if head in found for symbol in body if symbol[0].isupper()}
        if more <= found:
            return found
        found |= more


def nonterminals(productions):
    """The set of nonterminals."""
    return {symbol for name, head, body in productions for symbol in (head,) + body if symbol[0].isupper()}


def makes_grammar(productions):
    """Whether different productions in few nonterminals make a grammar."""
    texts = all_texts(productions)
    ended = all(texts.get(symbol) for symbol in nonterminals(productions))
    return ended and reached(productions) == nonterminals(productions) and not repeats(productions, texts)


def firsts(texts, nonterminal):
    """The firsts of all these texts."""
    return tuple(sorted({text[0] if text else "" for text in texts[nonterminal]}))


def least(texts, nonterminal):
    """The least text."""
    return min(texts[nonterminal], key=lambda text: (len(text), text))


def follows(productions, texts, nonterminal):
    """The nexts of the nodes in trees of the start, told from outside to inside."""
    found = {(productions[0][1], "$")}
    while True:
        more = set(found)
        for name, head, body in productions:
            for at, symbol in enumerate(body):
                if symbol[0].isupper():
                    behind = {joined(parts)[:1] for parts in part_choices(body[at + 1:], texts)}
                    for outer in [after for one, after in found if one == head]:
                        more |= {(symbol, text[0] if text else outer) for text in behind}
        if more == found:
            return tuple(sorted({after for one, after in found if one == nonterminal}))
        found = more
