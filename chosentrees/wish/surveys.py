"""Surveys of all trees, by filters and by parsers."""

from chosentrees.base.integers import is_ascending
from chosentrees.errors import InvalidFilter, InvalidOperation, UnknownName
from chosentrees.table.levels import check_table
from chosentrees.wish.closing import NodeMeasure, NoMarks, Search
from chosentrees.wish.filters import Filter
from chosentrees.wish.labels import accept_demand, check_parser
from chosentrees.wish.layers import Layers, all_layers
from chosentrees.wish.rules import FilterRule, PairRule

MAX_SPOTS = 20000


def filter_rule(table, bars):
    """The rule by a filter, or an error if there is none."""
    check_table(table)
    check_fitting(table.grammar, bars)
    return FilterRule(table, bars.bars)


def check_fitting(grammar, bars):
    """Raise an error if a value is no filter, or does not fit the grammar."""
    if not isinstance(bars, Filter) or not bars.fits(grammar):
        raise InvalidFilter("a value is no filter that fits the grammar")


def parser_rule(parser, bars):
    """The rule by a parser with the spots of a filter, or an error if there is none."""
    check_parser(parser)
    check_fitting(parser.grammar, bars)
    return FilterRule(parser.table, bars.bars, parser.resolution)


def pair_rule(parser, other):
    """The rule by the first of two parsers with the spots of both, or an error if there is none."""
    check_parser(parser)
    check_parser(other)
    if not parser.grammar.is_part_of(other.grammar):
        raise InvalidOperation("the first grammar is no part of the other one")
    return PairRule(parser, other)


def least_spots(rule, firsts):
    """The ascending tuple of the spots of a survey, by the firsts of the least one."""
    whole = rule.whole_spot()
    if not firsts[whole] or not rule.lets_accept():
        return ()
    found = {whole: True}
    waiting = [whole]
    while waiting:
        spot = waiting.pop()
        for layers in all_layers(rule, spot, firsts):
            for part in layers.whole_parts():
                if part not in found:
                    found[part] = True
                    waiting.append(part)
    return tuple(sorted(found))


def least_survey(rule):
    """The least survey that is closed for a rule."""
    firsts = Search(rule, MAX_SPOTS, NoMarks(), NodeMeasure()).firsts()
    return firsts, least_spots(rule, firsts)


def is_firsts_dict(rule, value):
    """Whether the value is a dict from spots to ascending tuples of firsts."""
    if not isinstance(value, dict):
        return False
    return all([rule.is_spot(spot) and rule.is_firsts(value[spot]) for spot in value])


def is_survey_form(rule, value):
    """Whether the value has the form of a survey."""
    if not isinstance(value, tuple) or len(value) != 2 or not is_firsts_dict(rule, value[0]):
        return False
    if not isinstance(value[1], tuple) or not all([rule.is_spot(spot) for spot in value[1]]):
        return False
    return is_ascending(value[1])


def has_closed_firsts(rule, firsts):
    """Whether a dict has the spot of the whole tree, all spots to which chains come, and all firsts of whole chains."""
    if rule.whole_spot() not in firsts:
        return False
    for spot in firsts:
        for layers in all_layers(rule, spot, firsts):
            if not all([part in firsts for part in layers.parts_met()]):
                return False
            if not all([first in firsts[spot] for first in layers.whole_firsts()]):
                return False
    return True


def has_closed_spots(rule, firsts, spots):
    """Whether the spots have that of the whole tree, if there are whole trees, and all of the parts of whole chains."""
    told = {spot: True for spot in spots}
    whole = rule.whole_spot()
    if firsts[whole] and rule.lets_accept() and whole not in told:
        return False
    for spot in spots:
        for layers in all_layers(rule, spot, firsts):
            if not all([part in told for part in layers.whole_parts()]):
                return False
    return True


def is_closed(rule, value):
    """Whether the value is a survey that is closed for a rule."""
    if not is_survey_form(rule, value):
        return False
    firsts, spots = value
    return has_closed_firsts(rule, firsts) and has_closed_spots(rule, firsts, spots)


def filter_survey(table, bars):
    """The least survey that is closed by the filter."""
    return least_survey(filter_rule(table, bars))


def parser_survey(parser, bars):
    """The least survey that is closed by the parser, with the spots of the filter."""
    return least_survey(parser_rule(parser, bars))


def pair_survey(parser, other):
    """The least survey that is closed by the first parser, with the spots of both."""
    return least_survey(pair_rule(parser, other))


def is_filter_survey(table, bars, value):
    """Whether the value is a survey that is closed by the filter."""
    return is_closed(filter_rule(table, bars), value)


def is_parser_survey(parser, bars, value):
    """Whether the value is a survey that is closed by the parser, with the spots of the filter."""
    return is_closed(parser_rule(parser, bars), value)


def is_pair_survey(parser, other, value):
    """Whether the value is a survey that is closed by the first parser, with the spots of both."""
    return is_closed(pair_rule(parser, other), value)


def chains(table, bars, spot, name, firsts):
    """The first, the spots of the parts and the demands of the whole chains of a production at a spot."""
    rule = filter_rule(table, bars)
    if not rule.is_spot(spot):
        raise InvalidOperation("a value is no spot")
    if not isinstance(name, str) or name not in rule.names_below(spot[1]):
        raise UnknownName(name)
    if not is_firsts_dict(rule, firsts):
        raise InvalidOperation("a value is no dict from spots to firsts")
    layers = Layers(rule, spot, name, firsts)
    for first, parts in layers.whole_rows():
        yield first, parts, rule.chain_demands(spot, name, layers.trail())


def survey_demands(rule, table, survey):
    """The ascending tuple of the demands of whole chains at the spots of a survey, with "accept" if there are spots."""
    firsts, spots = survey
    found = {}
    for spot in spots:
        for layers in all_layers(rule, spot, firsts):
            if layers.is_whole():
                for demand in rule.chain_demands(spot, layers.production(), layers.trail()):
                    found[demand] = True
    if spots:
        found[accept_demand(table)] = True
    return tuple(sorted(found))


def filter_demands(table, bars, survey):
    """The ascending tuple of all demands of whole chains at the spots of a survey that is closed by the filter."""
    rule = filter_rule(table, bars)
    if not is_closed(rule, survey):
        raise InvalidOperation("a value is no survey that is closed by the filter")
    return survey_demands(rule, table, survey)
