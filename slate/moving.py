"""Moving: where places and trees come to when rows (axis 0) or columns (axis 1) come or go."""

from slate.trees import parts, with_parts


def come_place(place, axis, at, many):
    if place[axis] < at:
        return place
    return with_number(place, axis, place[axis] + many)


def go_place(place, axis, at, many):
    if place[axis] < at:
        return place
    if place[axis] < at + many:
        return None
    return with_number(place, axis, place[axis] - many)


def with_number(place, axis, number):
    if axis == 0:
        return (number, place[1])
    return (place[0], number)


def come_tree(tree, axis, at, many):
    if tree[0] == "ref":
        return ("ref", come_place(tree[1], axis, at, many), tree[2])
    if tree[0] == "area":
        return ("area", come_tree(tree[1], axis, at, many), come_tree(tree[2], axis, at, many))
    return with_parts(tree, [come_tree(part, axis, at, many) for part in parts(tree)])


def go_tree(tree, axis, at, many):
    if tree[0] == "ref":
        return go_reference(tree, axis, at, many)
    if tree[0] == "area":
        return go_area(tree, axis, at, many)
    return with_parts(tree, [go_tree(part, axis, at, many) for part in parts(tree)])


def go_reference(reference, axis, at, many):
    place = go_place(reference[1], axis, at, many)
    if place is None:
        return ("gone",)
    return ("ref", place, reference[2])


def go_area(area, axis, at, many):
    first = go_end(area[1], axis, at, many, at)
    last = go_end(area[2], axis, at, many, at - 1)
    if first[1][axis] > last[1][axis]:
        return ("gone",)
    return ("area", first, last)


def go_end(end, axis, at, many, left):
    # An end that goes does not take the area along: the area then ends at the number that is left.
    place = go_place(end[1], axis, at, many)
    if place is None:
        place = with_number(end[1], axis, left)
    return ("ref", place, end[2])
