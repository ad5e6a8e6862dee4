"""Reckoning: the value of a tree, by what the places show."""

from slate.trees import leaf_places
from slate.values import bounded, gathered, is_trouble, put_together


def reckoned(tree, look):
    kind = tree[0]
    if kind == "num":
        return bounded(tree[1])
    if kind == "gone":
        return "gone"
    if kind == "ref":
        return shown_at(tree[1], look)
    if kind == "minus":
        return put_together("-", 0, reckoned(tree[1], look))
    if kind == "two":
        return put_together(tree[1], reckoned(tree[2], look), reckoned(tree[3], look))
    if kind == "pick":
        return picked(tree, look)
    return gathered(tree[1], values_of(tree[2], look))


def shown_at(place, look):
    value = look.get(place)
    if value is None:
        return 0
    if is_trouble(value):
        return value
    return bounded(value)


def picked(tree, look):
    asked = reckoned(tree[1], look)
    if is_trouble(asked):
        return asked
    return reckoned(tree[3] if asked == 0 else tree[2], look)


def values_of(row, look):
    found = []
    for part in row:
        if part[0] in ("ref", "area"):
            # None stays None here: an over passes an empty cell by, where a reference within another tree is 0.
            found.extend([look.get(place) for place in leaf_places(part)])
        else:
            found.append(reckoned(part, look))
    return found
