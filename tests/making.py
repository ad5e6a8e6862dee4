"""What several tests make trees with."""

LOOSE = (False, False)
FIXED = ((False, False), (False, True), (True, False), (True, True))
SIGNS = ("+", "-", "*", "/", "<", "=")
WORDS = ("SUM", "COUNT", "MAX")
GONE = ("gone",)


def num(number):
    return ("num", number)


def ref(row, column, fixed=LOOSE):
    return ("ref", (row, column), fixed)


def area(first, last, first_fixed=LOOSE, last_fixed=LOOSE):
    return ("area", ref(*first, first_fixed), ref(*last, last_fixed))


def over(*row, word="SUM"):
    return ("over", word, list(row))


def two(sign, one, other):
    return ("two", sign, one, other)


def minus(tree):
    return ("minus", tree)


def pick(one, other, third):
    return ("pick", one, other, third)


def deeper(tree, times):
    for time in range(times):
        tree = ("minus", tree)
    return tree


def twelve_deep(leaf):
    """A tree of all kinds, twelve deep, with the leaf at its lowest."""
    tree = leaf
    for step in range(11):
        tree = (minus(tree), two("+", num(1), tree), pick(num(1), tree, num(2)), over(tree))[step % 4]
    return tree


def sixty_leaves():
    eights = [("over", "MAX", [ref(row, column) for column in range(8)]) for row in range(7)]
    fours = ("over", "SUM", [ref(7, column) for column in range(4)])
    return ("over", "COUNT", eights + [fours])


def each_kind(one, other):
    """A tree of each kind with these two leaves in it."""
    return [minus(one), pick(one, other, num(1)), pick(num(1), GONE, one), twelve_deep(other),
            two("+", minus(one), over(other, minus(one)))] + [two(sign, one, other) for sign in SIGNS] + [
        over(one, num(5), other, word=word) for word in WORDS]


def with_lists():
    """Trees with lists in them, some of them with one list at two places."""
    inner = over(ref(3, 0), area((0, 0), (4, 4)), word="MAX")
    return [inner, over(num(1)), over(GONE), over(inner, minus(inner)), two("+", inner, inner),
            pick(inner, num(1), over(num(2))), sixty_leaves(), twelve_deep(over(ref(1, 1)))]


def lists_in(tree):
    """Every list within a tree, each as often as it stands there."""
    found = [tree] if isinstance(tree, list) else []
    for part in tree if isinstance(tree, (list, tuple)) else ():
        found.extend(lists_in(part))
    return found
