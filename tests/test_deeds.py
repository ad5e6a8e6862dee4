"""Points 71, 72 and 73, of put and copy: slate/deeds.py."""

import itertools
import unittest

from making import (FIXED, GONE, DeedCase, area, cells, deeper, each_kind, lists_in, log_of, minus, num, over, pick,
                    places, ref, sheet_of, sixty_leaves, twelve_deep, two, values)
from slate.copying import copy_tree
from slate.deeds import copy, put
from slate.errors import Outside, TooGreat
from slate.places import between, place_of
from slate.reading import read_formula
from slate.settling import from_start
from slate.sheets import opened
from slate.trees import meant
from slate.writing import formula_text

BOUND = 10 ** 30
# Just beyond each edge of a sheet of five rows and four columns, beyond all sheets, and far beyond.
NOT_INSIDE = ((5, 0), (0, 4), (-1, 0), (0, -1), (5, 4), (4, 4), (5, 3), (-1, -1), (99, 0), (0, 26), (98, 25), (100, 27),
              (-5, -4), (10 ** 40, 0), (0, -10 ** 40))


def content_of(text):
    if text == "":
        return None
    return read_formula(text[1:]) if text[0] == "=" else int(text)


class PutCase(DeedCase):
    def assert_put(self, ahead, name, content, behind, log, size=(5, 4)):
        """A sheet with the contents ahead has those behind then, and shows what reckoning all of them gives."""
        sheet = sheet_of(ahead, size)
        self.assert_deed(put, sheet, (place_of(name), content_of(content)), sheet_of(behind, size), log_of(log))

    def assert_copy(self, ahead, start, place, behind, log, size=(5, 4)):
        sheet = sheet_of(ahead, size)
        self.assert_deed(copy, sheet, (place_of(start), place_of(place)), sheet_of(behind, size), log_of(log))


class Put(PutCase):
    def test_a_number(self):
        self.assert_put("", "A1", "5", "A1 := 5", "")
        self.assert_put("", "D5", "-5", "D5 := -5", "")
        self.assert_put("A1 := 5", "A1", "0", "A1 := 0", "")
        self.assert_put("A1 := =B1+1", "A1", "7", "A1 := 7", "")

    def test_a_tree(self):
        self.assert_put("", "A1", "=1+2", "A1 := =1+2", "A1<A1")
        self.assert_put("A1 := 5", "A1", "=B1", "A1 := =B1", "A1<A1")
        self.assert_put("A1 := =B1, B1 := 4", "A1", "=B1+1", "A1 := =B1+1, B1 := 4", "A1<A1")
        self.assert_put("", "B2", "=#", "B2 := =#", "B2<B2")

    def test_nothing(self):
        self.assert_put("", "A1", "", "", "")
        self.assert_put("A1 := 5, B1 := 6", "A1", "", "B1 := 6", "")
        self.assert_put("A1 := =5, B1 := 6", "A1", "", "B1 := 6", "")

    def test_a_number_on_which_formulas_lean(self):
        ahead = "A1 := 5, B1 := =A1+1, C1 := =B1*2, D1 := =B2"
        self.assert_put(ahead, "A1", "6", "A1 := 6, B1 := =A1+1, C1 := =B1*2, D1 := =B2", "B1<A1 C1<B1")
        self.assert_put(ahead, "A1", "", "B1 := =A1+1, C1 := =B1*2, D1 := =B2", "B1<A1 C1<B1")
        self.assert_put(ahead, "B1", "6", "A1 := 5, B1 := 6, C1 := =B1*2, D1 := =B2", "")
        self.assert_put(ahead, "B1", "7", "A1 := 5, B1 := 7, C1 := =B1*2, D1 := =B2", "C1<B1")
        self.assert_put(ahead, "B2", "0", ahead + ", B2 := 0", "D1<B2")
        self.assert_put(ahead, "A5", "9", ahead + ", A5 := 9", "")

    def test_a_formula_that_shows_the_same(self):
        self.assert_put("A1 := 5, B1 := =A1", "A1", "=2+3", "A1 := =2+3, B1 := =A1", "A1<A1")
        self.assert_put("A1 := =2+3, B1 := =A1", "A1", "5", "A1 := 5, B1 := =A1", "")

    def test_a_formula_and_what_leans_on_it(self):
        self.assert_put("A1 := =C1, B1 := 4, C1 := 0", "C1", "=B1", "A1 := =C1, B1 := 4, C1 := =B1", "C1<C1 A1<C1")

    def test_the_same_content_once_more(self):
        ahead = "A1 := 5, B1 := =SUM(A1,1), C1 := =B1"
        for name, content in (("A1", "5"), ("B1", "=SUM(A1,1)"), ("C1", "=B1"), ("D4", "")):
            self.assert_put(ahead, name, content, ahead, "")
        # The same cells, but another fixedness: that is another content.
        self.assert_put(ahead, "C1", "=$B1", "A1 := 5, B1 := =SUM(A1,1), C1 := =$B1", "C1<C1")

    def test_the_same_content_is_not_reckoned_once_more(self):
        sheet = ((5, 4), cells("A1 := =1+1"), {(0, 0): 77})
        self.assert_deed(put, sheet, ((0, 0), read_formula("1+1")), sheet, [])

    def test_the_bound(self):
        for number in (BOUND, -BOUND, BOUND - 1, 1 - BOUND):
            self.assert_deed(put, opened(5, 4), ((1, 1), number), ((5, 4), {(1, 1): number}, {(1, 1): number}), [])
        for number in (BOUND + 1, -BOUND - 1, 10 ** 40, -10 ** 40, 10 ** 4000):
            for sheet in (opened(5, 4), sheet_of("B2 := 3, A1 := =B2")):
                self.assert_refused(TooGreat, put, sheet, (1, 1), number)

    def test_rings(self):
        self.assert_put("B1 := =A1", "A1", "=B1", "A1 := =B1, B1 := =A1", "")
        self.assert_put("A1 := =B1, B1 := =A1", "A1", "3", "A1 := 3, B1 := =A1", "B1<B1")
        self.assert_put("A1 := =B1, B1 := =A1", "A1", "", "B1 := =A1", "B1<B1")
        self.assert_put("A1 := =B1, B1 := =A1, C1 := =B1", "B1", "=D1", "A1 := =B1, B1 := =D1, C1 := =B1",
                        "B1<B1 A1<A1 C1<C1")
        self.assert_put("", "A1", "=A1", "A1 := =A1", "")
        self.assert_put("A1 := =A1", "A1", "=A1", "A1 := =A1", "")
        self.assert_put("A1 := =A1", "A1", "=A1+1", "A1 := =A1+1", "")

    def test_each_kind_of_tree(self):
        kinds = [num(10 ** 12 - 1), GONE, ref(4, 3, (True, True)), over(area((0, 0), (4, 3)), word="COUNT"), minus(num(3)),
                 twelve_deep(ref(4, 0)), deeper(ref(4, 0), 11), pick(num(0), num(1), ref(1, 1))]
        for tree in kinds + each_kind(ref(4, 3), ref(1, 2)):
            sheet = opened(5, 4)
            contents = {(0, 0): tree}
            log = [] if from_start(contents) == {(0, 0): "ring"} else [((0, 0), (0, 0))]
            self.assert_deed(put, sheet, ((0, 0), tree), ((5, 4), contents, from_start(contents)), log)

    def test_a_tree_is_kept_as_it_was_handed_in(self):
        tree = over(ref(1, 1), num(2))
        self.assertIs(put(opened(5, 4), (0, 0), tree)[0][1][(0, 0)], tree)

    def test_trees_beyond_the_bounds_are_not_refused(self):
        for tree in (deeper(ref(4, 0), 40), over(sixty_leaves(), sixty_leaves()), num(10 ** 15)):
            wanted = ((8, 8), {(7, 7): tree}, from_start({(7, 7): tree}))
            self.assert_deed(put, opened(8, 8), ((7, 7), tree), wanted, [((7, 7), (7, 7))])

    def test_size_and_other_contents_stay(self):
        contents = cells("A1 := 5, B1 := =SUM(A1:A4), C3 := =B1, D5 := -2")
        sheet = ((5, 4), contents, from_start(contents))
        for place, content in itertools.product(between((0, 0), (4, 3)), (None, 8, num(8), ref(3, 3))):
            behind = put(sheet, place, content)[0]
            self.assertEqual(behind[0], (5, 4))
            for other in between((0, 0), (4, 3)):
                if other != place:
                    self.assertEqual(repr(behind[1].get(other)), repr(contents.get(other)))
            self.assertEqual(repr(behind[1].get(place)), repr(content))
            self.assertNotIn(None, behind[1].values())

    def test_what_is_done_later_changes_nothing_told(self):
        first, log = put(opened(5, 4), (0, 0), num(1))
        second = put(first, (0, 1), ref(0, 0))[0]
        third = put(second, (0, 0), 9)[0]
        put(third, (0, 1), None)
        self.assertEqual(log, [((0, 0), (0, 0))])
        self.assertEqual(first, ((5, 4), {(0, 0): num(1)}, {(0, 0): 1}))
        self.assertEqual(second, ((5, 4), {(0, 0): num(1), (0, 1): ref(0, 0)}, {(0, 0): 1, (0, 1): 1}))
        self.assertEqual(third, ((5, 4), {(0, 0): 9, (0, 1): ref(0, 0)}, {(0, 0): 9, (0, 1): 9}))


class PutOutside(PutCase):
    def test_a_place_that_is_not_inside(self):
        for place in NOT_INSIDE:
            for content in (None, 5, num(1), ref(0, 0)):
                self.assert_refused(Outside, put, opened(5, 4), place, content)
                self.assert_refused(Outside, put, sheet_of("A1 := =D5"), place, content)

    def test_the_edges_are_inside(self):
        for place in ((0, 0), (4, 0), (0, 3), (4, 3)):
            self.assert_deed(put, opened(5, 4), (place, 5), ((5, 4), {place: 5}, {place: 5}), [])
            tree = ref(*place)
            self.assert_deed(put, opened(5, 4), ((1, 1), tree), ((5, 4), {(1, 1): tree}, {(1, 1): 0}), [((1, 1), (1, 1))])

    def test_a_tree_that_means_a_place_that_is_not_inside(self):
        for place in NOT_INSIDE:
            for fixed in FIXED:
                self.assert_refused(Outside, put, opened(5, 4), (0, 0), ref(*place, fixed))
            trees = [tree for tree in each_kind(ref(0, 1), ref(*place)) + each_kind(ref(*place), ref(0, 1))
                     if place in meant(tree)]
            self.assertGreater(len(trees), 20)
            for tree in trees:
                self.assert_refused(Outside, put, opened(5, 4), (0, 0), tree)

    def test_an_area_with_an_end_that_is_not_inside(self):
        for place in ((5, 0), (0, 4), (5, 4), (99, 0), (0, 26), (10 ** 9, 10 ** 9), (4, 4), (5, 3)):
            self.assert_refused(Outside, put, opened(5, 4), (2, 2), over(area((0, 0), place)))
            self.assert_refused(Outside, put, opened(5, 4), (2, 2), two("+", num(1), over(num(2), area(place, place))))
        for place in ((-1, 0), (0, -1), (-1, -1), (-10 ** 9, -10 ** 9)):
            self.assert_refused(Outside, put, opened(5, 4), (2, 2), over(area(place, (3, 3))))
            self.assert_refused(Outside, put, opened(5, 4), (2, 2), minus(over(area(place, place), word="MAX")))
        self.assert_refused(Outside, put, opened(99, 26), (2, 2), over(area((0, 0), (99, 25))))
        self.assert_refused(Outside, put, opened(99, 26), (2, 2), over(area((0, 0), (98, 26))))

    def test_an_area_with_its_ends_the_other_way_about_means_no_place(self):
        for first, last in (((9, 1), (0, 0)), ((1, 9), (0, 0)), ((2, 0), (1, 9)), ((0, 2), (9, 1)), ((1, 0), (-1, 0))):
            tree = over(area(first, last), word="COUNT")
            self.assertEqual(meant(tree), [])
            self.assert_deed(put, opened(5, 4), ((2, 2), tree), ((5, 4), {(2, 2): tree}, {(2, 2): 0}), [((2, 2), (2, 2))])

    def test_what_pick_does_not_take_counts_too(self):
        self.assert_refused(Outside, put, opened(5, 4), (0, 0), pick(num(1), num(2), ref(5, 0)))

    def test_the_size_counts_and_not_the_bounds(self):
        self.assert_refused(Outside, put, opened(1, 1), (0, 0), ref(0, 1))
        self.assert_refused(Outside, put, opened(1, 1), (0, 0), ref(1, 0))
        tree = ref(98, 25)
        self.assert_deed(put, opened(99, 26), ((0, 0), tree), ((99, 26), {(0, 0): tree}, {(0, 0): 0}), [((0, 0), (0, 0))])

    def test_two_refusals_at_once(self):
        for place in NOT_INSIDE:
            self.assert_refused(Outside, put, opened(5, 4), place, BOUND + 1)
            self.assert_refused(Outside, put, opened(5, 4), place, ref(9, 9))

    def test_a_formula_that_is_great_is_not_refused(self):
        tree = two("*", num(10 ** 12 - 1), two("*", num(10 ** 12 - 1), num(10 ** 12 - 1)))
        self.assert_deed(put, opened(5, 4), ((0, 0), tree), ((5, 4), {(0, 0): tree}, {(0, 0): "great"}), [((0, 0), (0, 0))])


class Copy(PutCase):
    def test_a_number(self):
        self.assert_copy("A1 := 5", "A1", "C3", "A1 := 5, C3 := 5", "")
        self.assert_copy("A1 := -5, C3 := =A1", "A1", "C3", "A1 := -5, C3 := -5", "")
        self.assert_copy("A1 := 5, B1 := =C3", "A1", "C3", "A1 := 5, B1 := =C3, C3 := 5", "B1<C3")

    def test_nothing(self):
        self.assert_copy("", "A1", "C3", "", "")
        self.assert_copy("C3 := 4, D1 := =C3", "A1", "C3", "D1 := =C3", "D1<C3")
        self.assert_copy("C3 := =4", "A1", "C3", "", "")

    def test_a_tree_in_each_direction(self):
        ahead = "C3 := =B2+1, B2 := 3"
        self.assert_copy(ahead, "C3", "C4", ahead + ", C4 := =B3+1", "C4<C4")
        self.assert_copy(ahead, "C3", "C2", ahead + ", C2 := =B1+1", "C2<C2")
        self.assert_copy(ahead, "C3", "D3", ahead + ", D3 := =C2+1", "D3<D3")
        self.assert_copy(ahead, "C3", "B3", ahead + ", B3 := =A2+1", "B3<B3")
        self.assert_copy(ahead, "C3", "D4", ahead + ", D4 := =C3+1", "D4<D4")
        self.assert_copy(ahead, "C3", "B2", "C3 := =B2+1, B2 := =A1+1", "B2<B2 C3<B2")

    def test_each_fixedness(self):
        ahead = "B2 := =A1+$A1+A$1+$A$1"
        self.assert_copy(ahead, "B2", "C4", ahead + ", C4 := =B3+$A3+B$1+$A$1", "C4<C4")
        self.assert_copy(ahead, "B2", "D2", ahead + ", D2 := =C1+$A1+C$1+$A$1", "D2<D2")

    def test_references_that_come_beyond_the_size(self):
        self.assert_copy("A4 := =A5+B4", "A4", "A5", "A4 := =A5+B4, A5 := =#+B5", "A5<A5 A4<A5")
        self.assert_copy("C1 := =D1+$D1", "C1", "D1", "C1 := =D1+$D1, D1 := =#+$D1", "")
        self.assert_copy("B2 := =A1", "B2", "B1", "B2 := =A1, B1 := =#", "B1<B1")
        self.assert_copy("B2 := =A1", "B2", "A2", "B2 := =A1, A2 := =#", "A2<A2")
        self.assert_copy("B2 := =#", "B2", "D5", "B2 := =#, D5 := =#", "D5<D5")

    def test_areas(self):
        self.assert_copy("A1 := =SUM(A2:B3)", "A1", "B2", "A1 := =SUM(A2:B3), B2 := =SUM(B3:C4)", "B2<B2 A1<B2")
        self.assert_copy("A1 := =SUM(A2:B4)", "A1", "A3", "A1 := =SUM(A2:B4), A3 := =SUM(#)", "A3<A3 A1<A3")
        # The ends turn about: A$3 stays, and A2 goes down to A4.
        self.assert_copy("D1 := =SUM(A2:A$3)", "D1", "D3", "D1 := =SUM(A2:A$3), D3 := =SUM(A$3:A4)", "D3<D3")

    def test_to_itself(self):
        ahead = "A1 := 5, B1 := =SUM(A1:$A$2,C1), C1 := =C1, D1 := =#"
        for name in ("A1", "B1", "C1", "D1", "A5"):
            self.assert_copy(ahead, name, name, ahead, "")

    def test_the_same_content_as_ahead(self):
        self.assert_copy("A1 := 5, B1 := 5, C1 := =B1", "A1", "B1", "A1 := 5, B1 := 5, C1 := =B1", "")
        self.assert_copy("A2 := =A1, B2 := =B1, C1 := =B2", "A2", "B2", "A2 := =A1, B2 := =B1, C1 := =B2", "")
        self.assert_copy("A2 := =$A1, B2 := =B1, C1 := =B2", "A2", "B2", "A2 := =$A1, B2 := =$A1, C1 := =B2", "B2<B2")

    def test_rings(self):
        self.assert_copy("A1 := =A2, A2 := 3", "A1", "A2", "A1 := =A2, A2 := =A3", "A2<A2 A1<A2")
        self.assert_copy("B1 := =$C$1, C1 := 4", "B1", "C1", "B1 := =$C$1, C1 := =$C$1", "")
        self.assert_copy("B1 := =$C$1, C1 := =B1, D1 := 8", "D1", "C1", "B1 := =$C$1, C1 := 8, D1 := 8", "B1<B1")

    def test_what_is_copied_is_the_copied_tree(self):
        for tree in each_kind(ref(2, 1, (False, True)), ref(1, 2, (True, False))) + [over(area((1, 1), (2, 2)), GONE)]:
            contents = {(1, 1): tree}
            sheet = ((5, 4), contents, from_start(contents))
            for place in between((0, 0), (4, 3)):
                behind, log = copy(sheet, (1, 1), place)
                wanted = copy_tree(tree, place[0] - 1, place[1] - 1, (5, 4))
                self.assertEqual(repr(behind[1][place]), repr(wanted))
                self.assertEqual(repr(behind[1][(1, 1)]), repr(tree))
                self.assertEqual(behind[2], from_start(behind[1]))

    def test_size_and_other_contents_stay(self):
        contents = cells("A1 := 5, B1 := =SUM(A1:A4), C3 := =B1, D5 := -2")
        sheet = ((5, 4), contents, from_start(contents))
        for start, place in itertools.product(between((0, 0), (4, 3)), repeat=2):
            behind = copy(sheet, start, place)[0]
            self.assertEqual(behind[0], (5, 4))
            for other in between((0, 0), (4, 3)):
                if other != place:
                    self.assertEqual(repr(behind[1].get(other)), repr(contents.get(other)))
            self.assertNotIn(None, behind[1].values())

    def test_a_copy_shares_no_list(self):
        sheet = sheet_of("A1 := =SUM(A2,MAX($A$3:$B$4))")
        for name in ("B1", "A1"):
            behind = copy(sheet, (0, 0), place_of(name))[0]
            lists = [row for tree in behind[1].values() for row in lists_in(tree)]
            if name == "B1":
                self.assertEqual(len(lists), len({id(row) for row in lists}))
            self.assertEqual(formula_text(behind[1][(0, 0)]), "SUM(A2,MAX($A$3:$B$4))")


class CopyOutside(PutCase):
    def test_from_or_to_a_place_that_is_not_inside(self):
        for sheet in (opened(5, 4), sheet_of("A1 := 5, B2 := =A1")):
            for place in NOT_INSIDE:
                for inner in places("A1 B2 D5"):
                    self.assert_refused(Outside, copy, sheet, place, inner)
                    self.assert_refused(Outside, copy, sheet, inner, place)
                self.assert_refused(Outside, copy, sheet, place, place)

    def test_the_edges_are_inside(self):
        sheet = sheet_of("A1 := 7")
        for place in ((4, 0), (0, 3), (4, 3)):
            self.assert_deed(copy, sheet, ((0, 0), place), ((5, 4), {(0, 0): 7, place: 7}, {(0, 0): 7, place: 7}), [])
        shown = values("A1=7 D5=7")
        self.assert_deed(copy, sheet_of("D5 := 7"), ((4, 3), (0, 0)), ((5, 4), dict(shown), shown), [])


if __name__ == "__main__":
    unittest.main()
