"""Parsers compared: whether one builds all trees that another one builds, of texts of any length."""

from chosentrees.base.symbols import text_order
from chosentrees.base.trees import is_text
from chosentrees.errors import InvalidOperation
from chosentrees.run.parsers import Parser
from chosentrees.table.tables import KINDS
from chosentrees.wish.labels import lacking, tree_demands
from chosentrees.wish.surveys import is_closed, least_survey, pair_rule
from chosentrees.wish.used import has_used_outside, is_paper_form, least_text, short_text


def is_inside(rule, survey):
    """Whether the other parser has all demands that are used in a survey that is closed by the first one."""
    if survey[1] and not rule.other_accepts():
        return False
    return not has_used_outside(rule, survey)


def outside_text(rule):
    """The least text of which the first parser builds a tree that the other one does not build.

    None if each such text has more than 60 terminals, or there is none.
    """
    # Without "accept" the other parser builds no tree at all.
    return least_text(rule, rule.other_accepts())


def inclusion_paper(parser, other):
    """A survey that shows that the other parser builds all trees of the first one, or a text with one that it lacks."""
    rule = pair_rule(parser, other)
    survey = least_survey(rule)
    return ("inside", survey) if is_inside(rule, survey) else ("outside", short_text(outside_text(rule)))


def least_outside(parser, other):
    """The least text of which the first parser builds a tree that the other one does not build, or None."""
    rule = pair_rule(parser, other)
    return None if is_inside(rule, least_survey(rule)) else short_text(outside_text(rule))


def is_outside_text(parser, other, text):
    """Whether the value is a text of which the first parser builds a tree that the other one does not build."""
    if not is_text(parser.grammar, text):
        return False
    tree = parser.tree(text)
    return tree is not None and lacking(other, tree_demands(other.table, tree)) != ()


def is_inside_survey(rule, value):
    """Whether the value is a survey that shows that the other parser builds all trees of the first one."""
    return is_closed(rule, value) and is_inside(rule, value)


def is_inclusion_paper(parser, other, value):
    """Whether the value is a paper that the other parser builds all trees of the first one, or that it does not."""
    rule = pair_rule(parser, other)
    if not is_paper_form(value, 2):
        return False
    if value[0] == "inside":
        return is_inside_survey(rule, value[1])
    return value[0] == "outside" and is_outside_text(parser, other, value[1])


def both_rules(parser, other):
    """The rules by each of two parsers with the spots of both, or an error if they have not the same productions."""
    rule = pair_rule(parser, other)
    if not other.grammar.is_part_of(parser.grammar):
        raise InvalidOperation("the parsers have not the same productions")
    return rule, pair_rule(other, parser)


def parting_text(rules):
    """The least text of at most 60 terminals of which one parser builds a tree that the other one does not build.

    The surveys have shown that there is such a text; it is an error if all of them are longer.
    """
    found = [text for text in [outside_text(rule) for rule in rules] if text is not None]
    return short_text(min(found, key=text_order) if found else None)


def comparison_paper(parser, other):
    """Two surveys that show that both parsers build the same trees, or a text of which they do not."""
    rules = both_rules(parser, other)
    surveys = [least_survey(rule) for rule in rules]
    if are_inside(rules, surveys):
        return "alike", surveys[0], surveys[1]
    return "parted", parting_text(rules)


def are_inside(rules, surveys):
    """Whether the surveys show, each by its rule, that both parsers build the same trees."""
    return all([is_inside(rule, survey) for rule, survey in zip(rules, surveys)])


def least_parting(parser, other):
    """The least text of which just one of the parsers builds a tree, or both build different ones, or None."""
    rules = both_rules(parser, other)
    return None if are_inside(rules, [least_survey(rule) for rule in rules]) else parting_text(rules)


def is_comparison_paper(parser, other, value):
    """Whether the value is a paper that both parsers build the same trees, or that they do not."""
    rules = both_rules(parser, other)
    if is_paper_form(value, 3) and value[0] == "alike":
        return is_inside_survey(rules[0], value[1]) and is_inside_survey(rules[1], value[2])
    if not is_paper_form(value, 2) or value[0] != "parted":
        return False
    return is_outside_text(parser, other, value[1]) or is_outside_text(other, parser, value[1])


def are_alike(parser, other):
    """Whether both parsers build the same trees."""
    rules = both_rules(parser, other)
    return are_inside(rules, [least_survey(rule) for rule in rules])


def kinds_alike(grammar, levels):
    """The ascending tuple of ascending tuples of the kinds whose parsers by these levels build the same trees."""
    groups = []
    for parser in [Parser.by(grammar, levels, kind=kind) for kind in sorted(KINDS)]:
        near = [group for group in groups if are_alike(group[0], parser)]
        if near:
            near[0].append(parser)
        else:
            groups.append([parser])
    return tuple([tuple([each.table.kind for each in group]) for group in groups])
