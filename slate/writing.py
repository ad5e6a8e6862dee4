"""Writing: the text of a tree, which reads to that very tree."""

from slate.places import place_name
from slate.trees import parts, strength


def formula_text(tree):
    kind = tree[0]
    if kind == "num":
        return str(tree[1])
    if kind == "ref":
        return reference_text(tree[1], tree[2])
    if kind == "gone":
        return "#"
    if kind == "area":
        return formula_text(tree[1]) + ":" + formula_text(tree[2])
    if kind == "minus":
        return "-" + part_text(tree[1], strength(tree))
    if kind == "two":
        return part_text(tree[2], strength(tree)) + tree[1] + part_text(tree[3], strength(tree) + 1)
    word = tree[1] if kind == "over" else "PICK"
    return word + "(" + ",".join([formula_text(part) for part in parts(tree)]) + ")"


def reference_text(place, fixed):
    name = place_name(place)
    ahead_of_letter = "$" if fixed[1] else ""
    ahead_of_figures = "$" if fixed[0] else ""
    return ahead_of_letter + name[0] + ahead_of_figures + name[1:]


def part_text(part, wanted):
    text = formula_text(part)
    if strength(part) < wanted:
        return "(" + text + ")"
    return text
