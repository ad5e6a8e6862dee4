"""Sheets: triples (size, contents, shown), how they begin and what is asked of them."""

from slate.errors import BadSize, Outside
from slate.leaning import sorted_out
from slate.places import MOST_COLUMNS, MOST_ROWS, inside
from slate.rings import ring_of
from slate.settling import is_formula, leans_of, settled
from slate.writing import formula_text


def opened(rows, columns):
    if not 1 <= rows <= MOST_ROWS or not 1 <= columns <= MOST_COLUMNS:
        raise BadSize("a sheet has 1 to 99 rows and 1 to 26 columns")
    return ((rows, columns), {}, {})


def want_inside(sheet, place):
    if not inside(sheet[0], place):
        raise Outside("the place is not inside the sheet")


def value_at(sheet, place):
    want_inside(sheet, place)
    return sheet[2].get(place)


def text_at(sheet, place):
    want_inside(sheet, place)
    content = sheet[1].get(place)
    if content is None:
        return ""
    if is_formula(content):
        return "=" + formula_text(content)
    return str(content)


def ring_at(sheet, place):
    want_inside(sheet, place)
    return ring_of(sorted_out(leans_of(sheet[1]))[1], place)


def sheet_behind(size, contents, ahead, others):
    # All deeds end here: so no sheet is told that is not settled.
    found = settled(contents, ahead, others)
    return ((size, contents, found[0]), found[1])
