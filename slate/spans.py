"""Deeds to a sheet's rows (axis 0) or columns (axis 1): many of them come or go."""

from slate.errors import BadSpan, TooGreat
from slate.moving import come_place, come_tree, go_place, go_tree, with_number
from slate.places import MOST_COLUMNS, MOST_ROWS
from slate.settling import is_formula
from slate.sheets import sheet_behind
from slate.trees import meant


class Span:
    def __init__(self, comes, axis, at, many):
        self.comes = comes
        self.axis = axis
        self.at = at
        self.many = many

    def place_behind(self, place):
        if self.comes:
            return come_place(place, self.axis, self.at, self.many)
        return go_place(place, self.axis, self.at, self.many)

    def content_behind(self, content):
        if not is_formula(content):
            return content
        if self.comes:
            return come_tree(content, self.axis, self.at, self.many)
        return go_tree(content, self.axis, self.at, self.many)

    def makes_other(self, content):
        if not is_formula(content):
            return False
        return meant(self.content_behind(content)) != [self.place_behind(place) for place in meant(content)]


def come(sheet, axis, at, many):
    want_span(sheet, axis, at, many)
    there = sheet[0][axis] + many
    if there > (MOST_ROWS, MOST_COLUMNS)[axis]:
        raise TooGreat("a sheet has at most 99 rows and 26 columns")
    return moved(sheet, with_number(sheet[0], axis, there), Span(True, axis, at, many))


def go(sheet, axis, at, many):
    want_span(sheet, axis, at, many)
    there = sheet[0][axis] - many
    if there < at or there < 1:
        raise BadSpan("so many are not there, or none would be left")
    return moved(sheet, with_number(sheet[0], axis, there), Span(False, axis, at, many))


def want_span(sheet, axis, at, many):
    if axis not in (0, 1):
        raise BadSpan("an axis is 0 or 1")
    if at < 0 or at > sheet[0][axis] or many < 1:
        raise BadSpan("rows or columns come or go at one that is there, one or more of them")


def moved(sheet, size, span):
    contents = {}
    others = []
    for place in sheet[1]:
        behind = span.place_behind(place)
        if behind is not None:
            contents[behind] = span.content_behind(sheet[1][place])
            if span.makes_other(sheet[1][place]):
                others.append(behind)
    return sheet_behind(size, contents, shown_ahead(sheet[2], span), others)


def shown_ahead(shown, span):
    # By the places behind: settling looks at each place ahead and behind by one key.
    ahead = {}
    for place in shown:
        behind = span.place_behind(place)
        if behind is not None:
            ahead[behind] = shown[place]
    return ahead
