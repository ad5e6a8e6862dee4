"""Copying: the tree that a formula has so many rows further down and columns further right."""

from slate.places import inside
from slate.trees import parts, with_parts


def copy_tree(tree, down, right, size):
    if tree[0] == "ref":
        return copy_reference(tree, down, right, size)
    if tree[0] == "area":
        return copy_area(tree, down, right, size)
    return with_parts(tree, [copy_tree(part, down, right, size) for part in parts(tree)])


def copy_reference(reference, down, right, size):
    row = reference[1][0] if reference[2][0] else reference[1][0] + down
    column = reference[1][1] if reference[2][1] else reference[1][1] + right
    if not inside(size, (row, column)):
        return ("gone",)
    return ("ref", (row, column), reference[2])


def copy_area(area, down, right, size):
    first = copy_reference(area[1], down, right, size)
    last = copy_reference(area[2], down, right, size)
    if first[0] == "gone" or last[0] == "gone":
        return ("gone",)
    # An end is fixed on one axis and not on the other: so the axes are turned about one by one.
    rows = in_turn(first, last, 0)
    columns = in_turn(first, last, 1)
    return ("area", end_of(rows[0], columns[0]), end_of(rows[1], columns[1]))


def in_turn(first, last, axis):
    # Pairs of a number and its fixedness, the lesser number first; equal ones stay as they stand.
    one = (first[1][axis], first[2][axis])
    other = (last[1][axis], last[2][axis])
    if one[0] > other[0]:
        return (other, one)
    return (one, other)


def end_of(row, column):
    return ("ref", (row[0], column[0]), (row[1], column[1]))
