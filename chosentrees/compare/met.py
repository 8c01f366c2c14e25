"""The cells that runs of a parser meet, over all texts, and texts without a tree."""

from chosentrees.base.integers import is_index
from chosentrees.base.symbols import END, MAX_TEXT, text_order
from chosentrees.compare.pushes import NoMeasure, Pushes
from chosentrees.compare.short_texts import short_texts
from chosentrees.errors import InvalidNumber, InvalidOperation
from chosentrees.table.resolutions import is_any_cell
from chosentrees.wish.closing import TextMeasure
from chosentrees.wish.labels import check_parser
from chosentrees.wish.used import short_text

MAX_LOST_LENGTH = 6
MAX_SHORT_TEXTS = 5000


def first_cells(parser):
    """The list of the cells that runs can meet at their beginning."""
    return [(0, lookahead) for lookahead in parser.grammar.terminals + (END,)]


def all_met(parser):
    """The ascending list of the cells that runs of a parser meet."""
    return sorted(Pushes(parser, first_cells(parser), NoMeasure(), True).met())


def cells_met(parser):
    """The ascending tuple of the cells that runs meet."""
    check_parser(parser)
    return tuple(all_met(parser))


def refusing(parser):
    """The ascending tuple of the cells that runs meet and that are not in the resolution."""
    check_parser(parser)
    resolution = parser.resolution
    return tuple([cell for cell in all_met(parser) if cell not in resolution])


def least_text_to(parser, cells):
    """The least text of at most 60 terminals whose run meets one of some cells, or None."""
    search = Pushes(parser, first_cells(parser), TextMeasure(MAX_TEXT), True)
    found = []
    for cell in cells:
        cost = search.cost_of(cell)
        if cost is not None:
            # The lookahead is the next terminal of the text, if it is not the end.
            text = cost[1] if cell[1] == END else (*cost[1], cell[1])
            if len(text) <= MAX_TEXT:
                found.append(text)
    return min(found, key=text_order) if found else None


def text_to(parser, cell):
    """The least text whose run meets a cell."""
    check_parser(parser)
    if not is_any_cell(cell) or cell not in all_met(parser):
        raise InvalidOperation("no run meets the cell")
    return short_text(least_text_to(parser, [cell]))


def endless_cells(parser):
    """The list of the cells from which runs go on endlessly without a shift.

    Then a cell is met above the first one, and another one above that, and so on, and none is taken off.
    """
    cells = all_met(parser)
    search = Pushes(parser, cells, NoMeasure(), False)
    ahead = {cell: search.above(cell) for cell in cells}
    while True:
        kept = {cell: ahead[cell] for cell in ahead if any([inner in ahead for inner in ahead[cell]])}
        if len(kept) == len(ahead):
            return list(kept)
        ahead = kept


def endless_text(parser):
    """The least text whose run is endless, or None."""
    check_parser(parser)
    cells = endless_cells(parser)
    return short_text(least_text_to(parser, cells)) if cells else None


def lost_texts(parser, *, most):
    """The texts of at most so many terminals that have a tree, but none that the parser builds, least ones first."""
    check_parser(parser)
    if not is_index(most, MAX_LOST_LENGTH + 1):
        raise InvalidNumber(most)
    for text in short_texts(parser.grammar, most, MAX_SHORT_TEXTS):
        if text not in parser:
            yield text
