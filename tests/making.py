"""What several tests make trees, places, contents and sheets with, and how they look at deeds."""

import copy
import re
import unittest

from slate.errors import SlateError
from slate.leaning import sorted_out
from slate.places import place_of
from slate.reading import read_formula
from slate.reckoning import reckoned
from slate.settling import from_start, leans_of
from slate.trees import meant

LOOSE = (False, False)
FIXED = ((False, False), (False, True), (True, False), (True, True))
SIGNS = ("+", "-", "*", "/", "<", "=")
WORDS = ("SUM", "COUNT", "MAX")
GONE = ("gone",)
TROUBLES = ("gone", "nought", "great", "ring")


def num(number):
    return ("num", number)


def ref(row, column, fixed=LOOSE):
    return ("ref", (row, column), fixed)


def area(first, last, first_fixed=LOOSE, last_fixed=LOOSE):
    return ("area", ref(*first, first_fixed), ref(*last, last_fixed))


def over(*row, word="SUM"):
    return ("over", word, list(row))


def two(sign, one, other):
    return ("two", sign, one, other)


def minus(tree):
    return ("minus", tree)


def pick(one, other, third):
    return ("pick", one, other, third)


def deeper(tree, times):
    for time in range(times):
        tree = ("minus", tree)
    return tree


def twelve_deep(leaf):
    """A tree of all kinds, twelve deep, with the leaf at its lowest."""
    tree = leaf
    for step in range(11):
        tree = (minus(tree), two("+", num(1), tree), pick(num(1), tree, num(2)), over(tree))[step % 4]
    return tree


def sixty_leaves():
    eights = [("over", "MAX", [ref(row, column) for column in range(8)]) for row in range(7)]
    fours = ("over", "SUM", [ref(7, column) for column in range(4)])
    return ("over", "COUNT", eights + [fours])


def each_kind(one, other):
    """A tree of each kind with these two leaves in it."""
    return [minus(one), pick(one, other, num(1)), pick(num(1), GONE, one), twelve_deep(other),
            two("+", minus(one), over(other, minus(one)))] + [two(sign, one, other) for sign in SIGNS] + [
        over(one, num(5), other, word=word) for word in WORDS]


def with_lists():
    """Trees with lists in them, some of them with one list at two places."""
    inner = over(ref(3, 0), area((0, 0), (4, 4)), word="MAX")
    return [inner, over(num(1)), over(GONE), over(inner, minus(inner)), two("+", inner, inner),
            pick(inner, num(1), over(num(2))), sixty_leaves(), twelve_deep(over(ref(1, 1)))]


def lists_in(tree):
    """Every list within a tree, each as often as it stands there."""
    found = [tree] if isinstance(tree, list) else []
    for part in tree if isinstance(tree, (list, tuple)) else ():
        found.extend(lists_in(part))
    return found


def places(names):
    """The places of some names with blanks between."""
    return [place_of(name) for name in names.split()]


def place_dict(text):
    """`A1<B2 C3, B2<` is a dict from A1 to the places B2 and C3, and from B2 to none."""
    pairs = [row.split("<") for row in text.split(",") if row.strip()]
    return {place_of(key.strip()): places(names) for key, names in pairs}


def cells(text):
    """`A1 := 5, B1 := =SUM(A1,1)` as contents: the text is cut at commas that have a blank behind them."""
    found = {}
    for row in re.split(r",\s+", text):
        if row.strip():
            name, content = row.strip().split(" := ")
            found[place_of(name)] = read_formula(content[1:]) if content[0] == "=" else int(content)
    return found


def values(text):
    """`A1=5 B1=ring C1=` as a dict of values: 5, the trouble ring, None."""
    found = {}
    for pair in text.split():
        name, value = pair.split("=")
        found[place_of(name)] = value if value in TROUBLES else int(value) if value else None
    return found


def log_of(text):
    pairs = [pair.split("<") for pair in text.split()]
    return [(place_of(place), place_of(why)) for place, why in pairs]


def sheet_of(text, size=(5, 4)):
    contents = cells(text)
    return (size, contents, from_start(contents))


def settled_plainly(contents, ahead, others):
    """What is shown and the log, as point 62 says it word by word."""
    order, nexts = sorted_out(leans_of(contents))
    behind = {place: content for place, content in contents.items() if not isinstance(content, tuple)}
    behind.update({place: "ring" for place in nexts})
    log = []
    for place in order:
        leant = [other for other in meant(contents[place]) if behind.get(other) != ahead.get(other)]
        if place in others or ahead.get(place) == "ring":
            log.append((place, place))
        elif leant:
            log.append((place, min(leant)))
        if log and log[-1][0] == place:
            behind[place] = reckoned(contents[place], behind)
        else:
            behind[place] = ahead.get(place)
    return {place: behind[place] for place in sorted(behind)}, log


class DeedCase(unittest.TestCase):
    def assert_deed(self, deed, sheet, told, wanted, log):
        """That a deed, told this, gives the wanted sheet and log, and leaves the sheet handed in."""
        # By their written forms: so kinds are looked at too, and the order of the keys of what is shown. Asked twice.
        kept = copy.deepcopy((sheet, told))
        for time in range(2):
            behind, found = deed(sheet, *told)
            self.assertEqual(repr(found), repr(log))
            self.assertEqual(repr(behind[0]), repr(wanted[0]))
            self.assertEqual(repr(sorted(behind[1].items())), repr(sorted(wanted[1].items())))
            self.assertEqual(repr(behind[2]), repr(wanted[2]))
            self.assertEqual([len(behind), isinstance(behind, tuple)], [3, True])
            self.assertEqual(repr((sheet, told)), repr(kept))
            # What is told is the asker's own.
            found.append("changed")
            behind[1].clear()
            behind[2].clear()
            self.assertEqual(repr((sheet, told)), repr(kept))

    def assert_refused(self, error, deed, sheet, *told):
        kept = copy.deepcopy((sheet, told))
        with self.assertRaises(error) as caught:
            deed(sheet, *told)
        self.assertIsInstance(caught.exception, SlateError)
        self.assertEqual(repr((sheet, told)), repr(kept))
