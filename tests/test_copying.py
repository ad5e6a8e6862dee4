"""Point 34: slate/copying.py."""

import copy
import itertools
import unittest

from making import (FIXED, GONE, area, each_kind, lists_in, minus, num, over, pick, ref, sixty_leaves, twelve_deep, two,
                    with_lists)
from slate.copying import copy_tree
from slate.reading import read_formula
from slate.trees import meant
from slate.writing import formula_text

FULL = (99, 26)
FAR = 10 ** 9
N = False
F = True


class CopyingCase(unittest.TestCase):
    def assert_copied(self, tree, down, right, size, wanted):
        # By their written forms: True is no 1 there, and a tuple no list. Asked twice: the same comes again.
        kept = copy.deepcopy(tree)
        for time in range(2):
            self.assertEqual(repr(copy_tree(tree, down, right, size)), repr(wanted))
            self.assertEqual(repr(tree), repr(kept))


class EachKind(CopyingCase):
    def test_what_means_no_place_stays(self):
        for tree in (num(0), num(10 ** 12 - 1), GONE, minus(num(1)), over(num(1), GONE), pick(GONE, num(1), GONE)):
            for down, right in ((0, 0), (3, -2), (-FAR, FAR)):
                self.assert_copied(tree, down, right, (5, 5), tree)
                self.assert_copied(tree, down, right, (1, 1), tree)

    def test_each_kind_of_tree(self):
        for tree, wanted in zip(each_kind(ref(1, 2), ref(5, 6)), each_kind(ref(4, 1), ref(8, 5))):
            self.assert_copied(tree, 3, -1, FULL, wanted)
        for tree, wanted in zip(each_kind(ref(1, 2), ref(5, 6)), each_kind(GONE, ref(3, 6))):
            self.assert_copied(tree, -2, 0, FULL, wanted)
        for tree, wanted in zip(each_kind(ref(1, 2), ref(5, 6)), each_kind(ref(1, 3), GONE)):
            self.assert_copied(tree, 0, 1, (99, 7), wanted)

    def test_areas_within_a_tree(self):
        tree = two("+", over(area((1, 1), (2, 3)), num(1)), minus(over(area((0, 0), (1, 1)), word="MAX")))
        self.assert_copied(tree, 1, 1, FULL,
                           two("+", over(area((2, 2), (3, 4)), num(1)), minus(over(area((1, 1), (2, 2)), word="MAX"))))
        self.assert_copied(tree, -1, 0, FULL,
                           two("+", over(area((0, 1), (1, 3)), num(1)), minus(over(GONE, word="MAX"))))

    def test_at_the_bounds(self):
        self.assert_copied(twelve_deep(ref(0, 0)), 98, 25, FULL, twelve_deep(ref(98, 25)))
        self.assert_copied(twelve_deep(ref(0, 0)), 99, 25, FULL, twelve_deep(GONE))
        moved = copy_tree(sixty_leaves(), 91, 18, FULL)
        self.assertEqual(meant(moved), [(row + 91, column + 18) for row, column in meant(sixty_leaves())])


class References(CopyingCase):
    def test_in_each_of_the_four_ways(self):
        for down, right in itertools.product((-3, -1, 0, 1, 4), repeat=2):
            for row_fixed, column_fixed in FIXED:
                fixed = (row_fixed, column_fixed)
                wanted = ref(5 if row_fixed else 5 + down, 6 if column_fixed else 6 + right, fixed)
                self.assert_copied(ref(5, 6, fixed), down, right, (20, 20), wanted)

    def test_by_nought(self):
        for fixed in FIXED:
            self.assert_copied(ref(5, 6, fixed), 0, 0, (6, 7), ref(5, 6, fixed))

    def test_just_inside_and_just_beyond_each_edge(self):
        for rows, columns in ((1, 1), (1, 26), (99, 1), (7, 4), FULL):
            for row, column in ((0, 0), (rows - 1, columns - 1), (rows // 2, columns // 2)):
                size = (rows, columns)
                tree = ref(row, column)
                self.assert_copied(tree, -row, -column, size, ref(0, 0))
                self.assert_copied(tree, rows - 1 - row, columns - 1 - column, size, ref(rows - 1, columns - 1))
                self.assert_copied(tree, -row - 1, 0, size, GONE)
                self.assert_copied(tree, rows - row, 0, size, GONE)
                self.assert_copied(tree, 0, -column - 1, size, GONE)
                self.assert_copied(tree, 0, columns - column, size, GONE)

    def test_far(self):
        for down, right in ((FAR, 0), (-FAR, 0), (0, FAR), (0, -FAR), (FAR, FAR), (-FAR, -FAR), (FAR, -FAR)):
            self.assert_copied(ref(5, 6), down, right, FULL, GONE)
            self.assert_copied(ref(5, 6, (True, True)), down, right, FULL, ref(5, 6, (True, True)))
        self.assert_copied(ref(5, 6, (True, False)), FAR, 2, FULL, ref(5, 8, (True, False)))
        self.assert_copied(ref(5, 6, (False, True)), -2, -FAR, FULL, ref(3, 6, (False, True)))
        self.assert_copied(ref(5, 6, (True, False)), 0, FAR, FULL, GONE)
        self.assert_copied(ref(5, 6, (False, True)), -FAR, 0, FULL, GONE)

    def test_a_fixed_one_that_is_not_inside(self):
        self.assert_copied(ref(5, 6, (True, True)), 0, 0, (5, 7), GONE)
        self.assert_copied(ref(5, 6, (True, True)), 0, 0, (6, 6), GONE)
        self.assert_copied(ref(5, 6, (True, False)), -5, -6, (5, 7), GONE)
        self.assert_copied(ref(5, 6, (False, True)), -5, -6, (6, 6), GONE)
        self.assert_copied(ref(5, 6, (True, True)), 0, 0, (6, 7), ref(5, 6, (True, True)))

    def test_one_that_was_not_inside_comes_in(self):
        self.assert_copied(ref(5, 6), -1, -1, (5, 6), ref(4, 5))


class Areas(CopyingCase):
    def test_that_stay_areas(self):
        for one, other in itertools.product(FIXED, repeat=2):
            told = area((3, 3), (6, 6), one, other)
            self.assert_copied(told, 0, 0, (7, 7), told)
        self.assert_copied(area((3, 3), (6, 6)), 2, -1, (9, 7), area((5, 2), (8, 5)))
        fixed = ((True, False), (False, True))
        self.assert_copied(area((3, 3), (6, 6), *fixed), 2, -1, FULL, area((3, 2), (8, 6), *fixed))
        self.assert_copied(area((3, 3), (6, 6), (F, F), (F, F)), -FAR, FAR, FULL, area((3, 3), (6, 6), (F, F), (F, F)))

    def test_beyond_with_the_first_or_the_last_end(self):
        told = area((3, 4), (6, 7))
        self.assert_copied(told, -3, -4, (4, 4), area((0, 0), (3, 3)))
        self.assert_copied(told, -4, -4, FULL, GONE)
        self.assert_copied(told, -3, -5, FULL, GONE)
        self.assert_copied(told, 3, 2, (10, 10), area((6, 6), (9, 9)))
        self.assert_copied(told, 4, 2, (10, 10), GONE)
        self.assert_copied(told, 3, 3, (10, 10), GONE)
        self.assert_copied(told, FAR, 0, FULL, GONE)
        self.assert_copied(told, 0, -FAR, FULL, GONE)
        self.assert_copied(over(num(1), told, ref(6, 7)), -4, 0, FULL, over(num(1), GONE, ref(2, 7)))

    def test_one_end_fixed_and_the_other_beyond(self):
        self.assert_copied(area((3, 3), (6, 6), (F, F), (N, N)), 4, 0, (10, 10), GONE)
        self.assert_copied(area((3, 3), (6, 6), (N, N), (F, F)), -4, 0, (10, 10), GONE)
        self.assert_copied(area((3, 3), (6, 6), (N, N), (F, F)), 0, 0, (6, 10), GONE)
        self.assert_copied(area((3, 3), (6, 6), (F, F), (N, N)), -6, 0, (3, 10), GONE)

    def test_turned_about_in_rows_alone(self):
        self.assert_copied(area((3, 3), (6, 6), (N, N), (F, N)), 5, 0, FULL, area((6, 3), (8, 6), (F, N), (N, N)))
        self.assert_copied(area((3, 3), (6, 6), (F, N), (N, F)), -5, 0, FULL, area((1, 3), (3, 6), (N, N), (F, F)))
        self.assert_copied(area((3, 3), (6, 6), (N, F), (F, N)), 4, 2, FULL, area((6, 3), (7, 8), (F, F), (N, N)))

    def test_turned_about_in_columns_alone(self):
        self.assert_copied(area((3, 3), (6, 6), (N, N), (N, F)), 0, 5, FULL, area((3, 6), (6, 8), (N, F), (N, N)))
        self.assert_copied(area((3, 3), (6, 6), (N, F), (F, N)), 0, -5, FULL, area((3, 1), (6, 3), (N, N), (F, F)))
        self.assert_copied(area((3, 3), (6, 6), (F, N), (N, F)), 2, 4, FULL, area((3, 6), (8, 7), (F, F), (N, N)))

    def test_turned_about_in_both(self):
        self.assert_copied(area((3, 3), (6, 6), (N, N), (F, F)), 5, 4, FULL, area((6, 6), (8, 7), (F, F), (N, N)))
        self.assert_copied(area((3, 3), (6, 6), (F, N), (N, F)), -4, 4, FULL, area((2, 6), (3, 7), (N, F), (F, N)))
        self.assert_copied(area((3, 3), (6, 6), (F, F), (N, N)), -6, -6, FULL, area((0, 0), (3, 3), (N, N), (F, F)))

    def test_just_not_turned_about(self):
        self.assert_copied(area((3, 3), (6, 6), (N, N), (F, F)), 3, 3, FULL, area((6, 6), (6, 6), (N, N), (F, F)))
        self.assert_copied(area((3, 3), (6, 6), (F, F), (N, N)), -3, -3, FULL, area((3, 3), (3, 3), (F, F), (N, N)))
        self.assert_copied(area((3, 3), (6, 6), (N, N), (F, F)), 4, 3, FULL, area((6, 6), (7, 6), (F, N), (N, F)))

    def test_of_one_place(self):
        self.assert_copied(area((4, 4), (4, 4)), 2, 3, FULL, area((6, 7), (6, 7)))
        self.assert_copied(area((4, 4), (4, 4), (F, F), (N, N)), 2, 3, FULL, area((4, 4), (6, 7), (F, F), (N, N)))
        self.assert_copied(area((4, 4), (4, 4), (F, F), (N, N)), -2, -3, FULL, area((2, 1), (4, 4), (N, N), (F, F)))
        self.assert_copied(area((4, 4), (4, 4), (N, N), (F, F)), 2, 0, FULL, area((4, 4), (6, 4), (F, N), (N, F)))
        self.assert_copied(area((0, 0), (0, 0)), 1, 0, (1, 1), GONE)
        self.assert_copied(area((0, 0), (0, 0)), 0, 0, (1, 1), area((0, 0), (0, 0)))

    def test_all_ways_against_number_and_mark(self):
        # Each axis by itself: the two numbers with their marks, copied and then in order of the numbers alone.
        for one, other in itertools.product(FIXED, repeat=2):
            for by in itertools.product((-3, -2, -1, 0, 1, 2, 3), repeat=2):
                axes = []
                for axis in (0, 1):
                    ends = [(3 if one[axis] else 3 + by[axis], one[axis]), (5 if other[axis] else 5 + by[axis], other[axis])]
                    axes.append(sorted(ends, key=lambda end: end[0]))
                wanted = area(*[(axes[0][end][0], axes[1][end][0]) for end in (0, 1)],
                              *[(axes[0][end][1], axes[1][end][1]) for end in (0, 1)])
                self.assert_copied(area((3, 3), (5, 5), one, other), *by, FULL, wanted)

    def test_as_texts(self):
        for text, down, right, wanted in (
                ("SUM(A$1:A1)", 3, 0, "SUM(A$1:A4)"), ("SUM(A1:A$4)", 5, 1, "SUM(B$4:B6)"),
                ("SUM($A1:B1)", 0, -1, "SUM($A1:A1)"), ("SUM($B$2:C3)", -2, -2, "SUM(A1:$B$2)"),
                ("MAX(A1:B2)+$A$1", -1, 0, "MAX(#)+$A$1")):
            self.assertEqual(formula_text(copy_tree(read_formula(text), down, right, (20, 10))), wanted)


class TheAskersOwn(CopyingCase):
    def test_the_copy_shares_no_list(self):
        # Also where nothing is other in it, and where one list stood twice in the tree.
        for tree, by in itertools.product(with_lists(), ((0, 0), (1, 1), (-9, 0))):
            told = copy_tree(tree, *by, FULL)
            wanted = copy.deepcopy(told)
            handed = {id(row) for row in lists_in(tree)}
            rows = lists_in(told)
            self.assertFalse(handed & {id(row) for row in rows})
            self.assertEqual(len({id(row) for row in rows}), len(rows))
            for row in lists_in(tree):
                row.append(num(9))
            self.assertEqual(repr(told), repr(wanted))

    def test_a_copy_that_is_changed_changes_nothing(self):
        for tree, by in itertools.product(with_lists(), ((0, 0), (1, 1))):
            kept = copy.deepcopy(tree)
            wanted = copy.deepcopy(copy_tree(tree, *by, FULL))
            for row in lists_in(copy_tree(tree, *by, FULL)):
                row.clear()
            self.assertEqual(repr(tree), repr(kept))
            self.assertEqual(repr(copy_tree(tree, *by, FULL)), repr(wanted))


if __name__ == "__main__":
    unittest.main()
