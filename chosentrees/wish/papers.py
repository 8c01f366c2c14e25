"""Papers that show that wanted trees can be built together, or that they clash."""

from chosentrees.base.trees import MAX_NODES, is_whole_tree
from chosentrees.errors import InvalidOperation, InvalidWishes, TooMany
from chosentrees.table.levels import check_table, is_resolution
from chosentrees.wish.closing import DemandMarks, NodeMeasure, Search
from chosentrees.wish.filters import Wishes
from chosentrees.wish.labels import accept_demand, all_demands, clashing_cells, resolution_of, tree_demands
from chosentrees.wish.rules import FilterRule
from chosentrees.wish.surveys import MAX_SPOTS, is_closed, least_survey, survey_demands


def check_wishes(table, wishes):
    """Raise an error if a value is no table, or no wishes, or these do not fit its grammar."""
    check_table(table)
    if not isinstance(wishes, Wishes) or not wishes.fit(table.grammar):
        raise InvalidWishes("a value is no wishes that fit the grammar")


def wishes_rule(table, wishes):
    """The rule by the filter of the wishes, or None without a filter."""
    return None if wishes.bars is None else FilterRule(table, wishes.bars.bars)


def all_wanted(table, wishes, survey):
    """The list of the demands of all wanted trees, by a survey that is closed by the filter, or None without one."""
    found = all_demands(table, wishes.trees)
    if survey is not None:
        found.extend(survey_demands(wishes_rule(table, wishes), table, survey))
    return found


def wishes_survey(table, wishes):
    """The least survey that is closed by the filter of the wishes, or None without a filter."""
    rule = wishes_rule(table, wishes)
    return None if rule is None else least_survey(rule)


def told_tree(table, wishes, demand):
    """The first told tree that has a demand, or None."""
    for tree in wishes.trees:
        if demand in tree_demands(table, tree):
            return tree
    return None


def allowed_tree(table, wishes, demand):
    """A tree that the filter allows and that has a demand, with as few nodes as can be, at most 200, or None."""
    rule = wishes_rule(table, wishes)
    if rule is None:
        return None
    # Each whole tree has the demand of its end, but no node and no terminal of it has.
    is_marked = demand != accept_demand(table)
    return Search(rule, MAX_SPOTS, DemandMarks((demand,)), NodeMeasure(MAX_NODES)).least_tree(is_marked)


def wanted_tree(table, wishes, demand):
    """A wanted tree of at most 200 nodes that has a demand, or None."""
    tree = told_tree(table, wishes, demand)
    return allowed_tree(table, wishes, demand) if tree is None else tree


def clash_at(table, wishes, cell, told):
    """Two wanted trees of at most 200 nodes, or one, that have different demands at a cell of those told, or None."""
    found = []
    for demand in sorted(set(told)):
        if demand[0] == cell and len(found) < 2:
            tree = wanted_tree(table, wishes, demand)
            if tree is not None:
                found.append(tree)
    if len(found) < 2:
        return None
    return (found[0],) if found[0] == found[1] else (found[0], found[1])


def clash_paper(table, wishes, told):
    """The paper for wishes that clash, by the demands of all wanted trees."""
    for cell in clashing_cells(told):
        trees = clash_at(table, wishes, cell, told)
        if trees is not None:
            return "clash", cell, trees
    raise TooMany(MAX_NODES)


def wishes_paper(table, wishes):
    """A resolution with which all wanted trees are built and a survey of them, or wanted trees that clash."""
    check_wishes(table, wishes)
    survey = wishes_survey(table, wishes)
    told = all_wanted(table, wishes, survey)
    if clashing_cells(told):
        return clash_paper(table, wishes, told)
    return "resolution", resolution_of(told), survey


def is_resolution_paper(table, wishes, value):
    """Whether the value is a paper with a resolution."""
    word, resolution, survey = value
    if not is_resolution(table, resolution):
        return False
    rule = wishes_rule(table, wishes)
    if rule is None and survey is not None:
        return False
    if rule is not None and not is_closed(rule, survey):
        return False
    return all([resolution.get(cell) == action for cell, action in all_wanted(table, wishes, survey)])


def are_wanted(table, wishes, value):
    """Whether the value is a tuple of one or two wanted trees of at most 200 nodes."""
    if not isinstance(value, tuple) or not 1 <= len(value) <= 2:
        return False
    return all([is_whole_tree(table.grammar, tree) and wishes.wants(table.grammar, tree) for tree in value])


def is_clash_paper(table, wishes, value):
    """Whether the value is a paper with trees that clash."""
    word, cell, trees = value
    if cell not in table or not are_wanted(table, wishes, trees):
        return False
    actions = [[action for place, action in tree_demands(table, tree) if place == cell] for tree in trees]
    return any([one != other for one in actions[0] for other in actions[-1]])


def is_wishes_paper(table, wishes, value):
    """Whether the value is a paper of these wishes."""
    check_wishes(table, wishes)
    if not isinstance(value, tuple) or len(value) != 3 or not isinstance(value[0], str):
        return False
    if value[0] == "resolution":
        return is_resolution_paper(table, wishes, value)
    return value[0] == "clash" and is_clash_paper(table, wishes, value)


def clashes(table, wishes):
    """The ascending tuple of the cells at which wanted trees demand different actions."""
    check_wishes(table, wishes)
    return clashing_cells(all_wanted(table, wishes, wishes_survey(table, wishes)))


def least_resolution(table, wishes):
    """The resolution that has exactly what wanted trees demand, or None if they clash."""
    check_wishes(table, wishes)
    told = all_wanted(table, wishes, wishes_survey(table, wishes))
    return None if clashing_cells(told) else resolution_of(told)


def tree_demanding(table, wishes, cell, action):
    """A wanted tree of at most 200 nodes that demands this action at this cell, or None if no wanted tree does."""
    check_wishes(table, wishes)
    if cell not in table or not isinstance(action, str) or action not in table[cell]:
        raise InvalidOperation("a value is no cell with this action")
    demand = (cell, action)
    if demand not in all_wanted(table, wishes, wishes_survey(table, wishes)):
        return None
    tree = wanted_tree(table, wishes, demand)
    if tree is None:
        raise TooMany(MAX_NODES)
    return tree
