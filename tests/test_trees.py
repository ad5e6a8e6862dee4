"""Points 21 and 22: slate/trees.py."""

import copy
import unittest

from making import SIGNS, WORDS, deeper, num, ref, sixty_leaves
from slate.places import between
from slate.trees import deep, leaves, meant, parts


def area(first, last):
    return ("area", ref(*first), ref(*last, (True, False)))


class Parts(unittest.TestCase):
    def test_of_leaves(self):
        for leaf in (num(0), num(10 ** 12 - 1), ref(0, 0), ref(98, 25, (True, True)), ("gone",), area((0, 0), (2, 2))):
            self.assertEqual(parts(leaf), [])

    def test_of_a_minus(self):
        self.assertEqual(parts(("minus", num(3))), [num(3)])
        self.assertEqual(parts(("minus", ("minus", ref(1, 2)))), [("minus", ref(1, 2))])
        self.assertEqual(parts(("minus", ("gone",))), [("gone",)])

    def test_of_a_two_of_each_sign(self):
        for sign in SIGNS:
            self.assertEqual(parts(("two", sign, num(1), ref(4, 5))), [num(1), ref(4, 5)])

    def test_of_a_pick(self):
        self.assertEqual(parts(("pick", num(1), ref(4, 5), ("gone",))), [num(1), ref(4, 5), ("gone",)])

    def test_of_an_over_of_each_word(self):
        for word in WORDS:
            self.assertEqual(parts(("over", word, [num(1)])), [num(1)])
            several = [area((0, 0), (1, 1)), num(2), ref(3, 3), ("minus", num(4))]
            self.assertEqual(parts(("over", word, several)), several)
            eight = [num(number) for number in range(8)]
            self.assertEqual(parts(("over", word, eight)), eight)

    def test_equal_parts_all_stand(self):
        self.assertEqual(parts(("two", "+", num(1), num(1))), [num(1), num(1)])
        self.assertEqual(parts(("over", "SUM", [num(1), num(1), num(1)])), [num(1)] * 3)

    def test_only_the_next_ones_are_told(self):
        inner = ("two", "*", num(1), num(2))
        self.assertEqual(parts(("two", "+", inner, num(3))), [inner, num(3)])

    def test_a_list_is_told(self):
        for tree in (num(1), ("minus", num(1)), ("two", "+", num(1), num(2)), ("over", "SUM", [num(1)])):
            self.assertIs(type(parts(tree)), list)


class Deep(unittest.TestCase):
    def test_leaves_are_one_deep(self):
        for leaf in (num(7), ref(2, 3), ("gone",), area((0, 0), (98, 25)), area((1, 1), (1, 1))):
            self.assertEqual(deep(leaf), 1)

    def test_each_kind_is_one_deeper(self):
        self.assertEqual(deep(("minus", num(1))), 2)
        self.assertEqual(deep(("pick", num(1), num(2), num(3))), 2)
        for sign in SIGNS:
            self.assertEqual(deep(("two", sign, num(1), num(2))), 2)
        for word in WORDS:
            self.assertEqual(deep(("over", word, [num(1), num(2)])), 2)
            self.assertEqual(deep(("over", word, [area((0, 0), (1, 1))])), 2)

    def test_the_deepest_part_counts_wherever_it_stands(self):
        low = deeper(num(1), 3)
        flat = num(2)
        for tree in (("two", "+", low, flat), ("two", "+", flat, low)):
            self.assertEqual(deep(tree), 5)
        for tree in (("pick", low, flat, flat), ("pick", flat, low, flat), ("pick", flat, flat, low)):
            self.assertEqual(deep(tree), 5)
        for at in range(8):
            row = [flat] * 8
            row[at] = low
            self.assertEqual(deep(("over", "MAX", row)), 5)

    def test_twelve_deep(self):
        tree = ref(5, 5)
        for step in range(11):
            tree = (("minus", tree), ("two", "+", num(1), tree), ("pick", tree, num(1), num(2)),
                    ("over", "SUM", [tree]))[step % 4]
        self.assertEqual(deep(tree), 12)
        self.assertEqual(deep(deeper(num(1), 11)), 12)

    def test_beyond_the_bounds(self):
        self.assertEqual(deep(deeper(num(1), 12)), 13)
        self.assertEqual(deep(deeper(num(1), 6000)), 6001)


class Leaves(unittest.TestCase):
    def test_a_leaf_has_one(self):
        for leaf in (num(7), ref(2, 3), ("gone",), area((0, 0), (98, 25)), area((1, 1), (1, 1))):
            self.assertEqual(leaves(leaf), 1)

    def test_of_each_kind(self):
        self.assertEqual(leaves(("minus", num(1))), 1)
        self.assertEqual(leaves(("pick", num(1), num(2), num(3))), 3)
        for sign in SIGNS:
            self.assertEqual(leaves(("two", sign, num(1), ("gone",))), 2)
        for word in WORDS:
            for many in range(1, 9):
                self.assertEqual(leaves(("over", word, [area((0, 0), (1, 1))] * many)), many)

    def test_equal_leaves_count_each_time(self):
        self.assertEqual(leaves(("two", "-", ref(0, 0), ref(0, 0))), 2)

    def test_at_several_depths(self):
        tree = ("two", "+", num(1), ("pick", ("minus", ref(0, 0)), ("over", "SUM", [("gone",), num(2)]), num(3)))
        self.assertEqual(leaves(tree), 5)

    def test_sixty(self):
        self.assertEqual(leaves(sixty_leaves()), 60)
        self.assertEqual(deep(sixty_leaves()), 3)

    def test_twelve_deep(self):
        self.assertEqual(leaves(deeper(num(1), 11)), 1)
        tree = num(1)
        for step in range(11):
            tree = ("two", "+", tree, num(step))
        self.assertEqual((leaves(tree), deep(tree)), (12, 12))

    def test_beyond_the_bounds(self):
        self.assertEqual(leaves(("two", "+", sixty_leaves(), num(1))), 61)
        self.assertEqual(leaves(deeper(("two", "+", num(1), num(2)), 6000)), 2)


class Meant(unittest.TestCase):
    def test_of_leaves(self):
        self.assertEqual(meant(num(5)), [])
        self.assertEqual(meant(("gone",)), [])
        for fixed in ((False, False), (False, True), (True, False), (True, True)):
            self.assertEqual(meant(ref(4, 7, fixed)), [(4, 7)])

    def test_of_areas(self):
        self.assertEqual(meant(area((1, 2), (2, 3))), [(1, 2), (1, 3), (2, 2), (2, 3)])
        self.assertEqual(meant(area((3, 3), (3, 3))), [(3, 3)])
        self.assertEqual(meant(area((0, 0), (98, 25))), between((0, 0), (98, 25)))

    def test_of_each_kind(self):
        self.assertEqual(meant(("minus", ref(1, 1))), [(1, 1)])
        self.assertEqual(meant(("pick", ref(0, 1), ref(0, 2), ref(0, 3))), [(0, 1), (0, 2), (0, 3)])
        for sign in SIGNS:
            self.assertEqual(meant(("two", sign, ref(0, 0), ref(1, 0))), [(0, 0), (1, 0)])
        for word in WORDS:
            row = [ref(9, 9), area((0, 0), (0, 1)), num(3), ("gone",), ("minus", ref(4, 4))]
            self.assertEqual(meant(("over", word, row)), [(0, 0), (0, 1), (4, 4), (9, 9)])

    def test_nothing_is_meant(self):
        for tree in (("minus", num(1)), ("two", "+", num(1), ("gone",)), ("pick", num(0), num(1), ("gone",)),
                     ("over", "SUM", [num(1), ("gone",)])):
            self.assertEqual(meant(tree), [])

    def test_in_order_and_each_once(self):
        self.assertEqual(meant(("two", "+", ref(2, 0), ref(0, 9))), [(0, 9), (2, 0)])
        self.assertEqual(meant(("two", "+", ref(0, 9), ref(0, 2))), [(0, 2), (0, 9)])
        self.assertEqual(meant(("two", "+", ref(1, 1), ref(1, 1, (True, True)))), [(1, 1)])
        tree = ("over", "MAX", [area((1, 0), (2, 1)), area((0, 1), (1, 2)), ref(1, 1)])
        self.assertEqual(meant(tree), [(0, 1), (0, 2), (1, 0), (1, 1), (1, 2), (2, 0), (2, 1)])

    def test_in_order_across_depths(self):
        tree = ("two", "+", ref(5, 5), ("minus", ("two", "*", ref(0, 0), ("minus", ref(9, 9)))))
        self.assertEqual(meant(tree), [(0, 0), (5, 5), (9, 9)])

    def test_twelve_deep_and_sixty_leaves(self):
        self.assertEqual(meant(deeper(ref(8, 8), 11)), [(8, 8)])
        wanted = between((0, 0), (6, 7)) + between((7, 0), (7, 3))
        self.assertEqual(meant(sixty_leaves()), wanted)

    def test_sixty_great_areas(self):
        eights = [("over", "SUM", [area((0, 0), (98, 25))] * 8) for time in range(7)]
        self.assertEqual(meant(("over", "SUM", eights)), between((0, 0), (98, 25)))

    def test_beyond_the_bounds(self):
        self.assertEqual(meant(ref(-1, 30)), [(-1, 30)])
        self.assertEqual(meant(area((-1, 26), (0, 26))), [(-1, 26), (0, 26)])
        self.assertEqual(meant(deeper(ref(1, 1), 6000)), [(1, 1)])


class TheAskersOwn(unittest.TestCase):
    def trees(self):
        inner = ("over", "SUM", [ref(3, 0), area((0, 0), (1, 1)), ref(3, 0)])
        return [
            num(4), ref(2, 2), ("gone",), area((1, 1), (2, 2)), ("minus", inner), ("two", "<", ref(9, 9), inner),
            ("pick", inner, ref(1, 0), num(2)), inner, ("over", "MAX", [inner, ref(0, 3), inner]), sixty_leaves(),
        ]

    def test_the_tree_handed_in_stays(self):
        for tree in self.trees():
            kept = copy.deepcopy(tree)
            for question in (parts, deep, leaves, meant):
                question(tree)
                self.assertEqual(tree, kept)

    def test_a_told_list_that_is_changed_changes_nothing(self):
        for tree in self.trees():
            kept = copy.deepcopy(tree)
            for question in (parts, meant):
                wanted = list(question(tree))
                told = question(tree)
                told.append("other")
                told.reverse()
                told.pop()
                self.assertEqual(tree, kept)
                self.assertEqual(question(tree), wanted)
                question(tree).clear()
                self.assertEqual(tree, kept)
                self.assertEqual(question(tree), wanted)

    def test_a_told_list_stays_whatever_is_asked_later(self):
        tree = ("over", "SUM", [ref(3, 0), ref(1, 0)])
        told_parts = parts(tree)
        told_places = meant(tree)
        parts(("over", "MAX", [num(1)]))
        meant(("minus", ref(7, 7)))
        deep(tree)
        leaves(tree)
        self.assertEqual(told_parts, [ref(3, 0), ref(1, 0)])
        self.assertEqual(told_places, [(1, 0), (3, 0)])


if __name__ == "__main__":
    unittest.main()
