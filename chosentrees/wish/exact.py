"""Whether a parser builds nothing else than a filter allows, and misses nothing of it."""

from chosentrees.base.trees import MAX_NODES, is_text, is_whole_tree
from chosentrees.errors import TooMany
from chosentrees.run.parsers import Parser
from chosentrees.wish.closing import DemandMarks, NodeMeasure, Search
from chosentrees.wish.filters import broken_bars
from chosentrees.wish.labels import accept_demand, check_parser, clashing_cells, lacking, missing, resolution_of
from chosentrees.wish.surveys import MAX_SPOTS, filter_rule, is_closed, least_survey, parser_rule, survey_demands
from chosentrees.wish.used import has_used_outside, is_paper_form, least_text, short_text


def within_survey(rule):
    """The least survey that is closed by a parser, and whether no used chain of it is of a barred production."""
    survey = least_survey(rule)
    return survey, not has_used_outside(rule, survey)


def within_paper(parser, bars):
    """A survey of all trees that the parser builds, if the filter allows them all, or a text with another one."""
    rule = parser_rule(parser, bars)
    survey, is_within = within_survey(rule)
    return ("within", survey) if is_within else ("beyond", short_text(least_text(rule, True)))


def least_beyond(parser, bars):
    """The least text of which the parser builds a tree that the filter does not allow, or None."""
    rule = parser_rule(parser, bars)
    return None if within_survey(rule)[1] else short_text(least_text(rule, True))


def is_beyond(parser, bars, text):
    """Whether the value is a text of which the parser builds a tree that the filter does not allow."""
    if not is_text(parser.grammar, text):
        return False
    tree = parser.tree(text)
    return tree is not None and broken_bars(bars.bars, tree) != []


def is_within_paper(parser, bars, value):
    """Whether the value is a paper that the parser builds nothing else than the filter allows, or that it does."""
    rule = parser_rule(parser, bars)
    if not is_paper_form(value, 2):
        return False
    if value[0] == "within":
        return is_closed(rule, value[1]) and not has_used_outside(rule, value[1])
    return value[0] == "beyond" and is_beyond(parser, bars, value[1])


def allowed_rule(parser, bars):
    """The rule by the filter for the table of a parser, or an error if there is none."""
    check_parser(parser)
    return filter_rule(parser.table, bars)


def missed_tree(rule, table, lacked):
    """A tree that the filter allows with one of some demands, with as few nodes as can be, at most 200, or None."""
    # Each whole tree has the demand of its end, but no node and no terminal of it has.
    with_mark = accept_demand(table) not in lacked
    return Search(rule, MAX_SPOTS, DemandMarks(lacked), NodeMeasure(MAX_NODES)).least_tree(with_mark)


def missed_paper(parser, bars):
    """A survey of all trees that the filter allows, if the parser builds them all, or one that it does not build."""
    rule = allowed_rule(parser, bars)
    survey = least_survey(rule)
    lacked = lacking(parser, survey_demands(rule, parser.table, survey))
    if not lacked:
        return "kept", survey
    tree = missed_tree(rule, parser.table, lacked)
    if tree is None:
        raise TooMany(MAX_NODES)
    return "missed", tree


def is_missed(parser, bars, tree):
    """Whether the value is a tree of at most 200 nodes that the filter allows and the parser does not build."""
    if not is_whole_tree(parser.grammar, tree) or broken_bars(bars.bars, tree):
        return False
    return missing(parser, tree) != ()


def is_missed_paper(parser, bars, value):
    """Whether the value is a paper that the parser misses nothing that the filter allows, or that it does."""
    rule = allowed_rule(parser, bars)
    if not is_paper_form(value, 2):
        return False
    if value[0] == "kept":
        return is_closed(rule, value[1]) and lacking(parser, survey_demands(rule, parser.table, value[1])) == ()
    return value[0] == "missed" and is_missed(parser, bars, value[1])


def is_exact(parser, bars):
    """Whether the parser builds just the trees that the filter allows."""
    is_within = within_survey(parser_rule(parser, bars))[1]
    rule = allowed_rule(parser, bars)
    told = survey_demands(rule, parser.table, least_survey(rule))
    return is_within and lacking(parser, told) == ()


def can_be_exact(table, bars):
    """Whether some resolution of the table has a parser that builds just the trees that the filter allows."""
    rule = filter_rule(table, bars)
    told = survey_demands(rule, table, least_survey(rule))
    if clashing_cells(told):
        return False
    parser = Parser(table, resolution_of(told))
    return within_survey(parser_rule(parser, bars))[1]
