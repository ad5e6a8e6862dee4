"""Deeds to one cell: it gets a content, or what stands at another one."""

from slate.copying import copy_tree
from slate.errors import Outside, TooGreat
from slate.places import inside
from slate.reading import is_turned
from slate.settling import is_formula
from slate.sheets import sheet_behind, want_inside
from slate.trees import leaf_list
from slate.values import bounded


def put(sheet, place, content):
    want_inside(sheet, place)
    if is_formula(content):
        want_meant_inside(sheet, content)
    elif content is not None and bounded(content) == "great":
        raise TooGreat("a number is of at most 10 ** 30 either way")
    return with_content(sheet, place, content)


def copy(sheet, start, place):
    want_inside(sheet, start)
    want_inside(sheet, place)
    content = sheet[1].get(start)
    if is_formula(content):
        content = copy_tree(content, place[0] - start[0], place[1] - start[1], sheet[0])
    return with_content(sheet, place, content)


def want_meant_inside(sheet, tree):
    for leaf in leaf_list(tree):
        if not all([inside(sheet[0], place) for place in corners(leaf)]):
            raise Outside("the formula means a place that is not inside the sheet")


def corners(leaf):
    # Of an area its ends alone: all that lies between them may be without end where it is yet to be refused.
    if leaf[0] == "ref":
        return [leaf[1]]
    if leaf[0] == "area" and not is_turned(leaf[1], leaf[2]):
        return [leaf[1][1], leaf[2][1]]
    return []


def with_content(sheet, place, content):
    contents = dict(sheet[1])
    if content is None:
        contents.pop(place, None)
    else:
        contents[place] = content
    others = [place] if content != sheet[1].get(place) else []
    return sheet_behind(sheet[0], contents, sheet[2], others)
