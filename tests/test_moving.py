"""Points 31, 32 and 33: slate/moving.py."""

import copy
import itertools
import unittest

from making import (FIXED, GONE, area, each_kind, lists_in, minus, num, over, ref, sixty_leaves, twelve_deep,
                    with_lists)
from slate.moving import come_place, come_tree, go_place, go_tree
from slate.places import between, in_order
from slate.trees import meant


def on(axis, number, other=3):
    """The place with this number on the axis, and another one on the other axis."""
    return (number, other) if axis == 0 else (other, number)


class MovingCase(unittest.TestCase):
    def assert_same(self, told, wanted):
        # By their written forms: True is no 1 there, and a tuple no list.
        self.assertEqual(repr(told), repr(wanted))


class ComePlace(MovingCase):
    def test_ahead_of_at_and_behind(self):
        for axis in (0, 1):
            self.assert_same(come_place(on(axis, 4), axis, 5, 2), on(axis, 4))
            self.assert_same(come_place(on(axis, 5), axis, 5, 2), on(axis, 7))
            self.assert_same(come_place(on(axis, 6), axis, 5, 2), on(axis, 8))
            self.assert_same(come_place(on(axis, 0), axis, 5, 2), on(axis, 0))

    def test_ahead_of_the_first(self):
        for axis in (0, 1):
            self.assert_same(come_place(on(axis, 0), axis, 0, 1), on(axis, 1))
            self.assert_same(come_place(on(axis, 9), axis, 0, 10), on(axis, 19))

    def test_the_axes_are_told_apart(self):
        self.assert_same(come_place((2, 7), 0, 3, 4), (2, 7))
        self.assert_same(come_place((2, 7), 1, 3, 4), (2, 11))
        self.assert_same(come_place((7, 2), 0, 3, 4), (11, 2))
        self.assert_same(come_place((7, 2), 1, 3, 4), (7, 2))

    def test_far_beyond(self):
        for axis in (0, 1):
            for at in (26, 99, 100, 10 ** 9):
                self.assert_same(come_place(on(axis, 25), axis, at, 10 ** 9), on(axis, 25))
        self.assert_same(come_place((98, 25), 0, 99, 1), (98, 25))
        self.assert_same(come_place((98, 25), 1, 26, 1), (98, 25))


class GoPlace(MovingCase):
    def test_ahead_of_at_and_at_both_ends(self):
        for axis in (0, 1):
            self.assert_same(go_place(on(axis, 4), axis, 5, 3), on(axis, 4))
            for number in (5, 6, 7):
                self.assertIsNone(go_place(on(axis, number), axis, 5, 3))
            self.assert_same(go_place(on(axis, 8), axis, 5, 3), on(axis, 5))
            self.assert_same(go_place(on(axis, 9), axis, 5, 3), on(axis, 6))

    def test_one_goes(self):
        for axis in (0, 1):
            self.assert_same(go_place(on(axis, 4), axis, 5, 1), on(axis, 4))
            self.assertIsNone(go_place(on(axis, 5), axis, 5, 1))
            self.assert_same(go_place(on(axis, 6), axis, 5, 1), on(axis, 5))

    def test_the_first_go(self):
        for axis in (0, 1):
            self.assertIsNone(go_place(on(axis, 0), axis, 0, 2))
            self.assertIsNone(go_place(on(axis, 1), axis, 0, 2))
            self.assert_same(go_place(on(axis, 2), axis, 0, 2), on(axis, 0))

    def test_the_axes_are_told_apart(self):
        self.assert_same(go_place((2, 7), 0, 3, 2), (2, 7))
        self.assert_same(go_place((2, 7), 1, 3, 2), (2, 5))
        self.assert_same(go_place((7, 2), 0, 3, 2), (5, 2))
        self.assert_same(go_place((7, 2), 1, 3, 2), (7, 2))
        self.assertIsNone(go_place((3, 9), 0, 3, 1))
        self.assertIsNone(go_place((9, 3), 1, 3, 1))

    def test_far_beyond(self):
        for axis in (0, 1):
            for at in (26, 99, 10 ** 9):
                self.assert_same(go_place(on(axis, 25), axis, at, 10 ** 9), on(axis, 25))
            self.assertIsNone(go_place(on(axis, 25), axis, 25, 10 ** 9))
            self.assertIsNone(go_place(on(axis, 25), axis, 0, 100))
            self.assert_same(go_place(on(axis, 3), axis, 4, 1000), on(axis, 3))

    def test_what_came_and_goes_again(self):
        for axis, number, at, many in itertools.product((0, 1), range(8), range(9), (1, 2, 5)):
            place = on(axis, number)
            self.assert_same(go_place(come_place(place, axis, at, many), axis, at, many), place)


class ComeTree(MovingCase):
    def test_what_means_no_place_stays(self):
        for axis in (0, 1):
            for tree in (num(0), num(10 ** 12 - 1), GONE, minus(GONE), over(num(1), GONE)):
                self.assert_same(come_tree(tree, axis, 0, 5), tree)

    def test_references_keep_their_fixedness(self):
        for axis, fixed in itertools.product((0, 1), FIXED):
            self.assert_same(come_tree(ref(*on(axis, 4), fixed), axis, 5, 2), ref(*on(axis, 4), fixed))
            self.assert_same(come_tree(ref(*on(axis, 5), fixed), axis, 5, 2), ref(*on(axis, 7), fixed))
            self.assert_same(come_tree(ref(*on(axis, 6), fixed), axis, 5, 2), ref(*on(axis, 8), fixed))

    def test_each_kind_of_tree(self):
        for tree, wanted in zip(each_kind(ref(1, 2), ref(5, 6)), each_kind(ref(1, 2), ref(8, 6))):
            self.assert_same(come_tree(tree, 0, 3, 3), wanted)
        for tree, wanted in zip(each_kind(ref(1, 2), ref(5, 6)), each_kind(ref(1, 2), ref(5, 9))):
            self.assert_same(come_tree(tree, 1, 3, 3), wanted)

    def test_areas(self):
        for axis, one, other in itertools.product((0, 1), FIXED, FIXED):
            told = area(on(axis, 3), on(axis, 6), one, other)
            for at, first, last in ((2, 5, 8), (3, 5, 8), (4, 3, 8), (6, 3, 8), (7, 3, 6)):
                wanted = area(on(axis, first), on(axis, last), one, other)
                self.assert_same(come_tree(over(told), axis, at, 2), over(wanted))
                self.assert_same(come_tree(told, axis, at, 2), wanted)

    def test_an_area_of_one_place(self):
        for axis in (0, 1):
            told = area(on(axis, 3), on(axis, 3))
            self.assert_same(come_tree(told, axis, 3, 1), area(on(axis, 4), on(axis, 4)))
            self.assert_same(come_tree(told, axis, 4, 1), told)

    def test_far_beyond(self):
        for axis in (0, 1):
            for tree in (ref(98, 25), over(area((0, 0), (98, 25)))):
                self.assert_same(come_tree(tree, axis, 99, 10 ** 6), tree)
                self.assert_same(come_tree(tree, axis, 10 ** 9, 1), tree)

    def test_a_reference_means_the_cell_that_it_meant(self):
        for axis, number, at in itertools.product((0, 1), range(6), range(7)):
            place = on(axis, number)
            self.assertEqual(meant(come_tree(ref(*place), axis, at, 2)), [come_place(place, axis, at, 2)])

    def test_at_the_bounds(self):
        self.assert_same(come_tree(twelve_deep(ref(0, 0)), 0, 0, 98), twelve_deep(ref(98, 0)))
        self.assertEqual(meant(come_tree(sixty_leaves(), 1, 0, 18)),
                         between((0, 18), (6, 25)) + between((7, 18), (7, 21)))


class GoTree(MovingCase):
    def test_what_means_no_place_stays(self):
        for axis in (0, 1):
            for tree in (num(0), num(10 ** 12 - 1), GONE, minus(GONE), over(num(1), GONE)):
                self.assert_same(go_tree(tree, axis, 0, 5), tree)

    def test_references(self):
        for axis, fixed in itertools.product((0, 1), FIXED):
            self.assert_same(go_tree(ref(*on(axis, 4), fixed), axis, 5, 2), ref(*on(axis, 4), fixed))
            self.assert_same(go_tree(ref(*on(axis, 5), fixed), axis, 5, 2), GONE)
            self.assert_same(go_tree(ref(*on(axis, 6), fixed), axis, 5, 2), GONE)
            self.assert_same(go_tree(ref(*on(axis, 7), fixed), axis, 5, 2), ref(*on(axis, 5), fixed))
            self.assert_same(go_tree(ref(*on(axis, 9), fixed), axis, 5, 2), ref(*on(axis, 7), fixed))

    def test_each_kind_of_tree(self):
        for tree, wanted in zip(each_kind(ref(1, 2), ref(8, 9)), each_kind(GONE, ref(6, 9))):
            self.assert_same(go_tree(tree, 0, 1, 2), wanted)
        for tree, wanted in zip(each_kind(ref(1, 2), ref(8, 9)), each_kind(ref(1, 2), GONE)):
            self.assert_same(go_tree(tree, 1, 9, 2), wanted)
        for tree, wanted in zip(each_kind(ref(1, 2), ref(8, 9)), each_kind(ref(1, 2), ref(8, 6))):
            self.assert_same(go_tree(tree, 1, 3, 3), wanted)

    def test_areas(self):
        # An area from 3 to 6: at, many, and what is left.
        rows = (
            (0, 2, 1, 4), (0, 3, 0, 3), (1, 2, 1, 4),
            (2, 2, 2, 4), (0, 4, 0, 2), (3, 1, 3, 5), (3, 3, 3, 3), (0, 6, 0, 0),
            (6, 1, 3, 5), (5, 2, 3, 4), (4, 3, 3, 3), (4, 50, 3, 3), (6, 2, 3, 5),
            (4, 2, 3, 4), (4, 1, 3, 5), (5, 1, 3, 5),
            (7, 1, 3, 6), (7, 1000, 3, 6), (500, 3, 3, 6),
        )
        for axis, one, other in itertools.product((0, 1), FIXED, FIXED):
            told = area(on(axis, 3), on(axis, 6), one, other)
            for at, many, first, last in rows:
                wanted = area(on(axis, first), on(axis, last), one, other)
                self.assert_same(go_tree(told, axis, at, many), wanted)
                self.assert_same(go_tree(over(num(1), told), axis, at, many), over(num(1), wanted))

    def test_areas_that_go_whole(self):
        for axis, fixed in itertools.product((0, 1), FIXED):
            told = area(on(axis, 3), on(axis, 6), fixed, (True, True))
            for at, many in ((3, 4), (2, 5), (3, 5), (0, 7), (0, 1000), (3, 10 ** 9), (1, 40)):
                self.assert_same(go_tree(told, axis, at, many), GONE)
                self.assert_same(go_tree(over(told, num(2), told), axis, at, many), over(GONE, num(2), GONE))

    def test_an_area_of_one_row_or_column(self):
        for axis in (0, 1):
            told = area(on(axis, 3, 0), on(axis, 3, 8))
            self.assert_same(go_tree(told, axis, 3, 1), GONE)
            self.assert_same(go_tree(told, axis, 2, 1), area(on(axis, 2, 0), on(axis, 2, 8)))
            self.assert_same(go_tree(told, axis, 4, 1), told)
            self.assert_same(go_tree(told, 1 - axis, 0, 8), area(on(axis, 3, 0), on(axis, 3, 0)))

    def test_the_other_axis_stays(self):
        told = area((2, 5), (7, 9), (True, False), (False, True))
        self.assert_same(go_tree(told, 0, 6, 5), area((2, 5), (5, 9), (True, False), (False, True)))
        self.assert_same(go_tree(told, 1, 6, 5), area((2, 5), (7, 5), (True, False), (False, True)))
        self.assert_same(go_tree(told, 0, 0, 3), area((0, 5), (4, 9), (True, False), (False, True)))
        self.assert_same(go_tree(told, 1, 0, 6), area((2, 0), (7, 3), (True, False), (False, True)))

    def test_an_area_means_what_is_left_of_what_it_meant(self):
        for axis, first, last, at, many in itertools.product((0, 1), range(6), range(6), range(7), range(1, 8)):
            told = area(on(axis, first, 1), on(axis, last, 2))
            if first <= last:
                left = [go_place(place, axis, at, many) for place in meant(told)]
                self.assertEqual(meant(go_tree(told, axis, at, many)), in_order([place for place in left if place]))

    def test_what_came_and_goes_again(self):
        for axis, at, many in itertools.product((0, 1), range(9), (1, 2, 5)):
            for tree in each_kind(ref(3, 2), ref(5, 6)) + [over(area((1, 2), (3, 5)), ref(0, 0))]:
                self.assert_same(go_tree(come_tree(tree, axis, at, many), axis, at, many), tree)

    def test_at_the_bounds(self):
        self.assert_same(go_tree(twelve_deep(ref(98, 0)), 0, 0, 98), twelve_deep(ref(0, 0)))
        self.assert_same(go_tree(twelve_deep(ref(98, 0)), 0, 98, 1), twelve_deep(GONE))
        self.assertEqual(meant(go_tree(sixty_leaves(), 1, 1, 30)), between((0, 0), (7, 0)))


class TheAskersOwn(MovingCase):
    def test_the_tree_handed_in_stays(self):
        for tree, axis, move in itertools.product(with_lists(), (0, 1), (come_tree, go_tree)):
            kept = copy.deepcopy(tree)
            move(tree, axis, 1, 2)
            move(tree, axis, 50, 2)
            self.assert_same(tree, kept)

    def test_the_moved_one_shares_no_list(self):
        # Also where nothing moved, and where one list stood twice in the tree.
        for tree, axis, at, move in itertools.product(with_lists(), (0, 1), (1, 50), (come_tree, go_tree)):
            told = move(tree, axis, at, 2)
            wanted = copy.deepcopy(told)
            handed = {id(row) for row in lists_in(tree)}
            rows = lists_in(told)
            self.assertFalse(handed & {id(row) for row in rows})
            self.assertEqual(len({id(row) for row in rows}), len(rows))
            for row in lists_in(tree):
                row.append(num(9))
            self.assert_same(told, wanted)

    def test_a_moved_one_that_is_changed_changes_nothing(self):
        for tree, axis, move in itertools.product(with_lists(), (0, 1), (come_tree, go_tree)):
            kept = copy.deepcopy(tree)
            wanted = copy.deepcopy(move(tree, axis, 1, 2))
            for row in lists_in(move(tree, axis, 1, 2)):
                row.clear()
            self.assert_same(tree, kept)
            self.assert_same(move(tree, axis, 1, 2), wanted)


if __name__ == "__main__":
    unittest.main()
