"""Trees of formulas: their parts, their strengths, how deep and wide they are, and which places they mean."""

from slate.places import between, in_order

LEAF_KINDS = ("num", "ref", "gone", "area")
STRENGTHS = {"<": 1, "=": 1, "+": 2, "-": 2, "*": 3, "/": 3}


def parts(tree):
    kind = tree[0]
    if kind in LEAF_KINDS:
        return []
    if kind == "over":
        # A copy: whoever asks may change the list, and the tree stays.
        return list(tree[2])
    if kind == "two":
        return [tree[2], tree[3]]
    return list(tree[1:])


def with_parts(tree, others):
    kind = tree[0]
    if kind in LEAF_KINDS:
        return tree
    if kind == "over":
        return ("over", tree[1], list(others))
    if kind == "two":
        return ("two", tree[1], others[0], others[1])
    return (kind,) + tuple(others)


def strength(tree):
    # Only the kind and the sign are looked at: a two or a minus that still lacks its last part has a strength too.
    if tree[0] == "two":
        return STRENGTHS[tree[1]]
    if tree[0] == "minus":
        return 4
    return 5


def levels(tree):
    # Level by level and not by recursion: a tree that is yet to be refused may be thousands deep.
    found = []
    level = [tree]
    while level:
        found.append(level)
        below = []
        for part in level:
            below.extend(parts(part))
        level = below
    return found


def deep(tree):
    return len(levels(tree))


def leaf_list(tree):
    found = []
    for level in levels(tree):
        found.extend([part for part in level if part[0] in LEAF_KINDS])
    return found


def leaves(tree):
    return len(leaf_list(tree))


def leaf_places(leaf):
    if leaf[0] == "ref":
        return [leaf[1]]
    if leaf[0] == "area":
        return between(leaf[1][1], leaf[2][1])
    return []


def meant(tree):
    found = []
    for leaf in leaf_list(tree):
        found.extend(leaf_places(leaf))
    return in_order(found)
