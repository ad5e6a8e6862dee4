"""Points 71 and 73, of opened, value_at, text_at and ring_at: slate/sheets.py."""

import copy
import unittest

from making import cells, deeper, each_kind, num, over, places, ref, sheet_of, two
from slate.errors import BadSize, NoRing, Outside, SlateError
from slate.places import between
from slate.settling import from_start
from slate.sheets import opened, ring_at, text_at, value_at
from slate.writing import formula_text

QUESTIONS = (value_at, text_at, ring_at)


class SheetCase(unittest.TestCase):
    def assert_told(self, question, sheet, place, wanted):
        kept = copy.deepcopy(sheet)
        for time in range(2):
            self.assertEqual(repr(question(sheet, place)), repr(wanted))
            self.assertEqual(repr(sheet), repr(kept))

    def assert_refused(self, error, question, sheet, place):
        kept = copy.deepcopy(sheet)
        with self.assertRaises(error) as caught:
            question(sheet, place)
        self.assertIsInstance(caught.exception, SlateError)
        self.assertEqual(repr(sheet), repr(kept))


class Opened(SheetCase):
    def test_the_least_and_the_greatest(self):
        for rows, columns in ((1, 1), (99, 26), (1, 26), (99, 1), (5, 5), (2, 7)):
            self.assertEqual(repr(opened(rows, columns)), repr(((rows, columns), {}, {})))

    def test_one_beyond_at_each_edge(self):
        for rows, columns in ((0, 1), (1, 0), (100, 26), (99, 27), (0, 5), (5, 0), (100, 5), (5, 27)):
            with self.assertRaises(BadSize):
                opened(rows, columns)

    def test_nought_below_nought_and_far_beyond(self):
        for wrong in (0, -1, -5, -99, 100, 10 ** 6, 10 ** 40, -10 ** 40):
            for rows, columns in ((wrong, 5), (5, wrong), (wrong, wrong)):
                with self.assertRaises(BadSize):
                    opened(rows, columns)

    def test_rows_and_columns_are_told_apart(self):
        self.assertEqual(opened(99, 26)[0], (99, 26))
        with self.assertRaises(BadSize):
            opened(26, 99)

    def test_each_sheet_is_the_askers_own(self):
        first = opened(3, 3)
        first[1][(0, 0)] = 5
        first[2][(0, 0)] = 5
        self.assertEqual(opened(3, 3), ((3, 3), {}, {}))
        second = opened(3, 3)
        second[1][(1, 1)] = 5
        self.assertEqual(second[2], {})


class Values(SheetCase):
    def test_an_empty_cell(self):
        for place in between((0, 0), (4, 3)):
            self.assert_told(value_at, opened(5, 4), place, None)
        self.assert_told(value_at, sheet_of("A1 := 3"), (0, 1), None)

    def test_a_number(self):
        sheet = sheet_of("A1 := 3, B1 := -7, A2 := 0")
        self.assert_told(value_at, sheet, (0, 0), 3)
        self.assert_told(value_at, sheet, (0, 1), -7)
        self.assert_told(value_at, sheet, (1, 0), 0)

    def test_a_formula(self):
        sheet = sheet_of("A1 := 3, B1 := =A1*2-10, C1 := =#, D1 := =1/0")
        self.assert_told(value_at, sheet, (0, 1), -4)
        self.assert_told(value_at, sheet, (0, 2), "gone")
        self.assert_told(value_at, sheet, (0, 3), "nought")

    def test_a_stuck_formula(self):
        sheet = sheet_of("A1 := =B1, B1 := =A1, C1 := =A1+1")
        for place in places("A1 B1 C1"):
            self.assert_told(value_at, sheet, place, "ring")

    def test_what_is_shown_is_told_and_nothing_reckoned(self):
        self.assert_told(value_at, ((5, 4), cells("A1 := =1+1"), {(0, 0): 44}), (0, 0), 44)


class Texts(SheetCase):
    def test_an_empty_cell(self):
        for place in between((0, 0), (4, 3)):
            self.assert_told(text_at, opened(5, 4), place, "")
        self.assert_told(text_at, sheet_of("A1 := 3"), (0, 1), "")

    def test_a_number(self):
        sheet = sheet_of("A1 := 3, B1 := -7, A2 := 0")
        self.assert_told(text_at, sheet, (0, 0), "3")
        self.assert_told(text_at, sheet, (0, 1), "-7")
        self.assert_told(text_at, sheet, (1, 0), "0")

    def test_a_great_number(self):
        sheet = ((5, 4), {(0, 0): 10 ** 30, (0, 1): -10 ** 30}, {(0, 0): 10 ** 30, (0, 1): -10 ** 30})
        self.assert_told(text_at, sheet, (0, 0), "1" + "0" * 30)
        self.assert_told(text_at, sheet, (0, 1), "-1" + "0" * 30)

    def test_a_formula(self):
        sheet = sheet_of("A1 := =1, B1 := =( $A1 + A$2 )*2, C1 := =#, D1 := =SUM( A1:B2 ,3) - 1, A2 := =-(1-2)")
        for name, text in (("A1", "=1"), ("B1", "=($A1+A$2)*2"), ("C1", "=#"), ("D1", "=SUM(A1:B2,3)-1"), ("A2", "=-(1-2)")):
            self.assert_told(text_at, sheet, places(name)[0], text)

    def test_each_kind_of_tree(self):
        for tree in each_kind(ref(3, 3, (True, False)), ref(0, 2)) + [deeper(num(5), 11), over(two("<", num(1), num(2)))]:
            contents = {(4, 0): tree}
            self.assert_told(text_at, ((5, 4), contents, from_start(contents)), (4, 0), "=" + formula_text(tree))

    def test_a_stuck_formula(self):
        self.assert_told(text_at, sheet_of("A1 := =B1+1, B1 := =A1"), (0, 0), "=B1+1")


class Rings(SheetCase):
    def test_a_ring(self):
        sheet = sheet_of("A1 := =A1, B1 := =D2, C1 := =B1+A2, D2 := =C1, A2 := 4")
        self.assert_told(ring_at, sheet, (0, 0), places("A1"))
        for name in ("B1", "C1", "D2"):
            self.assert_told(ring_at, sheet, places(name)[0], places("B1 D2 C1"))

    def test_from_a_formula_that_leads_to_it(self):
        sheet = sheet_of("A1 := =B1, B1 := =C2, C2 := =B1, A3 := =SUM(A1:A2)")
        for name in ("A1", "B1", "C2", "A3"):
            self.assert_told(ring_at, sheet, places(name)[0], places("B1 C2"))

    def test_through_an_area_and_what_pick_does_not_take(self):
        self.assert_told(ring_at, sheet_of("A5 := =SUM(A1:A4), A3 := =PICK(1,2,A5)"), (2, 0), places("A3 A5"))

    def test_the_next_is_the_least_stuck_one(self):
        # A1 is not stuck; of B1 and C1 the least is the next of D1.
        sheet = sheet_of("A1 := 1, B1 := =D1, C1 := =D1, D1 := =C1+B1+A1")
        for name in ("B1", "C1", "D1"):
            self.assert_told(ring_at, sheet, places(name)[0], places("B1 D1"))

    def test_a_place_that_is_no_stuck_formula(self):
        sheet = sheet_of("A1 := =A1, B1 := 5, C1 := =B1, D1 := =#")
        for name in ("B1", "C1", "D1", "A2", "D5"):
            self.assert_refused(NoRing, ring_at, sheet, places(name)[0])
        for place in between((0, 0), (4, 3)):
            self.assert_refused(NoRing, ring_at, opened(5, 4), place)

    def test_a_list_that_was_told_and_then_changed_changes_no_later_answer(self):
        sheet = sheet_of("A1 := =B1, B1 := =A1")
        told = ring_at(sheet, (0, 0))
        told.append((9, 9))
        told[0] = (3, 3)
        self.assert_told(ring_at, sheet, (0, 0), places("A1 B1"))
        self.assert_told(ring_at, sheet, (0, 1), places("A1 B1"))


class NotInside(SheetCase):
    def test_just_beyond_each_edge(self):
        for question in QUESTIONS:
            for sheet in (opened(5, 4), sheet_of("A1 := =A1, D5 := =D5, B2 := 3")):
                for place in ((5, 0), (0, 4), (-1, 0), (0, -1), (5, 4), (-1, -1), (5, 3), (4, 4), (4, -1), (-1, 3)):
                    self.assert_refused(Outside, question, sheet, place)

    def test_the_corners_are_inside(self):
        sheet = sheet_of("A1 := =A1, D5 := =D5, A5 := =A5, D1 := =D1")
        for place in ((0, 0), (4, 3), (4, 0), (0, 3)):
            self.assert_told(value_at, sheet, place, "ring")
            self.assert_told(ring_at, sheet, place, [place])
        self.assert_told(text_at, sheet, (4, 3), "=D5")

    def test_beyond_the_greatest_sheet(self):
        for question in QUESTIONS:
            for place in ((99, 0), (0, 26), (99, 26), (-1, 25), (98, -1), (10 ** 40, 0), (0, -10 ** 40)):
                self.assert_refused(Outside, question, opened(99, 26), place)

    def test_outside_ahead_of_no_ring(self):
        self.assert_refused(Outside, ring_at, opened(1, 1), (1, 1))
        self.assert_refused(NoRing, ring_at, opened(1, 1), (0, 0))


if __name__ == "__main__":
    unittest.main()
