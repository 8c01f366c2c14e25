"""What is used of a survey, and texts with something that a rule is held against."""

from chosentrees.base.symbols import MAX_TEXT
from chosentrees.errors import TooMany
from chosentrees.wish.closing import OutsideMarks, Search, TextMeasure
from chosentrees.wish.layers import all_layers
from chosentrees.wish.surveys import MAX_SPOTS


def used_chains(rule, survey):
    """The list of (spot, first, layers): at a spot with a first the whole chains of a production that are used.

    The survey is closed for the rule.
    """
    firsts, spots = survey
    if rule.whole_spot() not in spots:
        return []
    waiting = [(rule.whole_spot(), first) for first in firsts[rule.whole_spot()]]
    met = {pair: True for pair in waiting}
    known = {}
    found = []
    while waiting:
        spot, first = waiting.pop()
        if spot not in known:
            known[spot] = all_layers(rule, spot, firsts)
        for layers in known[spot]:
            if layers.has_first(first):
                found.append((spot, first, layers))
                added = list({pair: True for pair in layers.used_parts(first) if pair not in met})
                met.update({pair: True for pair in added})
                waiting.extend(added)
    return found


def has_used_outside(rule, survey):
    """Whether a used chain of a survey that is closed for a rule is outside of what the rule is held against."""
    return any([rule.is_outside(spot, layers.production(), layers.trail())
                for spot, first, layers in used_chains(rule, survey)])


def least_text(rule, with_mark):
    """The least text of a tree that is let, if asked for with a node outside of what the rule is held against.

    None if each such text has more than 60 terminals, or there is none.
    """
    if not rule.lets_accept():
        return None
    found = Search(rule, MAX_SPOTS, OutsideMarks(), TextMeasure(MAX_TEXT)).least(with_mark)
    return None if found is None else found[0][1]


def short_text(text):
    """The text, or an error if there is none of at most 60 terminals."""
    if text is None:
        raise TooMany(MAX_TEXT)
    return text


def is_paper_form(value, many):
    """Whether the value is a tuple of so many values, the first one a string."""
    return isinstance(value, tuple) and len(value) == many and isinstance(value[0], str)
