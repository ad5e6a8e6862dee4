"""Points 71, 72 and 73, of come and go: slate/spans.py."""

import itertools
import random
import unittest

from making import DeedCase, area, cells, log_of, num, over, ref, settled_plainly, sheet_of, two
from slate.errors import BadSpan, TooGreat
from slate.moving import come_place, come_tree, go_place, go_tree
from slate.places import between, inside
from slate.reading import read_formula
from slate.settling import from_start
from slate.sheets import opened
from slate.spans import come, go
from slate.trees import meant


class SpanCase(DeedCase):
    def assert_span(self, deed, ahead, told, size, behind, log):
        """A sheet of five rows and four columns is told this and has that size and those contents behind."""
        wanted = sheet_of(behind, size)
        self.assert_deed(deed, sheet_of(ahead), told, wanted, log_of(log))


class Come(SpanCase):
    def test_an_empty_sheet(self):
        self.assert_span(come, "", (0, 0, 1), (6, 4), "", "")
        self.assert_span(come, "", (1, 0, 1), (5, 5), "", "")
        self.assert_span(come, "", (0, 5, 7), (12, 4), "", "")
        self.assert_span(come, "", (1, 4, 3), (5, 7), "", "")

    def test_numbers_move_or_stay(self):
        ahead = "A1 := 1, B2 := 2, C3 := 3, D5 := -4"
        self.assert_span(come, ahead, (0, 0, 2), (7, 4), "A3 := 1, B4 := 2, C5 := 3, D7 := -4", "")
        self.assert_span(come, ahead, (0, 2, 2), (7, 4), "A1 := 1, B2 := 2, C5 := 3, D7 := -4", "")
        self.assert_span(come, ahead, (0, 4, 1), (6, 4), "A1 := 1, B2 := 2, C3 := 3, D6 := -4", "")
        self.assert_span(come, ahead, (0, 5, 1), (6, 4), ahead, "")
        self.assert_span(come, ahead, (1, 0, 1), (5, 5), "B1 := 1, C2 := 2, D3 := 3, E5 := -4", "")
        self.assert_span(come, ahead, (1, 1, 3), (5, 7), "A1 := 1, E2 := 2, F3 := 3, G5 := -4", "")
        self.assert_span(come, ahead, (1, 3, 1), (5, 5), "A1 := 1, B2 := 2, C3 := 3, E5 := -4", "")
        self.assert_span(come, ahead, (1, 4, 2), (5, 6), ahead, "")

    def test_references_are_taken_along(self):
        ahead = "A1 := 5, B3 := =A1+1, C1 := =B3*$B$3, D5 := =A5"
        self.assert_span(come, ahead, (0, 1, 1), (6, 4), "A1 := 5, B4 := =A1+1, C1 := =B4*$B$4, D6 := =A6", "")
        self.assert_span(come, ahead, (0, 0, 2), (7, 4), "A3 := 5, B5 := =A3+1, C3 := =B5*$B$5, D7 := =A7", "")
        self.assert_span(come, ahead, (1, 1, 1), (5, 5), "A1 := 5, C3 := =A1+1, D1 := =C3*$C$3, E5 := =A5", "")
        self.assert_span(come, ahead, (0, 5, 2), (7, 4), ahead, "")

    def test_an_area_that_gets_places_between_is_reckoned(self):
        ahead = "A1 := 1, A2 := 2, A3 := 3, C5 := =SUM(A1:A3), D5 := =C5"
        self.assert_span(come, ahead, (0, 1, 1), (6, 4), "A1 := 1, A3 := 2, A4 := 3, C6 := =SUM(A1:A4), D6 := =C6", "C6<C6")
        self.assert_span(come, ahead, (0, 2, 2), (7, 4), "A1 := 1, A2 := 2, A5 := 3, C7 := =SUM(A1:A5), D7 := =C7", "C7<C7")
        # Ahead of its first row and behind its last one it gets none between.
        self.assert_span(come, ahead, (0, 0, 1), (6, 4), "A2 := 1, A3 := 2, A4 := 3, C6 := =SUM(A2:A4), D6 := =C6", "")
        self.assert_span(come, ahead, (0, 3, 1), (6, 4), "A1 := 1, A2 := 2, A3 := 3, C6 := =SUM(A1:A3), D6 := =C6", "")
        self.assert_span(come, ahead, (1, 1, 1), (5, 5), "A1 := 1, A2 := 2, A3 := 3, D5 := =SUM(A1:A3), E5 := =D5", "")

    def test_an_area_of_one_row_gets_none(self):
        ahead = "A2 := 4, C5 := =SUM(A2:B2)"
        self.assert_span(come, ahead, (0, 1, 1), (6, 4), "A3 := 4, C6 := =SUM(A3:B3)", "")
        self.assert_span(come, ahead, (0, 2, 1), (6, 4), "A2 := 4, C6 := =SUM(A2:B2)", "")
        self.assert_span(come, ahead, (1, 1, 1), (5, 5), "A2 := 4, D5 := =SUM(A2:C2)", "D5<D5")

    def test_what_leans_on_one_that_was_reckoned_and_shows_the_same(self):
        # COUNT is reckoned, as it got places, and shows the same: what leans on it is not.
        self.assert_span(come, "A1 := 1, B1 := =COUNT(A1:A2), C1 := =B1", (0, 1, 1), (6, 4),
                         "A1 := 1, B1 := =COUNT(A1:A3), C1 := =B1", "B1<B1")

    def test_a_ring_that_is_moved(self):
        self.assert_span(come, "A1 := =B2, B2 := =A1, C1 := =B2", (0, 1, 1), (6, 4), "A1 := =B3, B3 := =A1, C1 := =B3", "")

    def test_no_ring_comes_by_what_an_area_gets(self):
        # C2 stands ahead between the area's ends in its row, and is moved along: the new places are empty.
        self.assert_span(come, "C2 := =SUM(A1:A2)", (0, 1, 1), (6, 4), "C3 := =SUM(A1:A3)", "C3<C3")
        self.assert_span(come, "C2 := =SUM(B1:B2,D1:D2)", (1, 2, 1), (5, 5), "D2 := =SUM(B1:B2,E1:E2)", "")

    def test_up_to_the_greatest(self):
        self.assert_deed(come, opened(98, 5), (0, 0, 1), opened(99, 5), [])
        self.assert_deed(come, opened(1, 1), (0, 0, 98), opened(99, 1), [])
        self.assert_deed(come, opened(1, 1), (0, 1, 98), opened(99, 1), [])
        self.assert_deed(come, opened(5, 25), (1, 25, 1), opened(5, 26), [])
        self.assert_deed(come, opened(1, 1), (1, 1, 25), opened(1, 26), [])
        sheet = ((98, 25), {(97, 24): 3, (0, 0): ref(97, 24)}, {(0, 0): 3, (97, 24): 3})
        self.assert_deed(come, sheet, (0, 97, 1), ((99, 25), {(98, 24): 3, (0, 0): ref(98, 24)}, {(0, 0): 3, (98, 24): 3}), [])


class Go(SpanCase):
    def test_an_empty_sheet(self):
        self.assert_span(go, "", (0, 0, 1), (4, 4), "", "")
        self.assert_span(go, "", (0, 0, 4), (1, 4), "", "")
        self.assert_span(go, "", (0, 1, 4), (1, 4), "", "")
        self.assert_span(go, "", (1, 3, 1), (5, 3), "", "")
        self.assert_span(go, "", (1, 1, 3), (5, 1), "", "")

    def test_numbers_go_move_or_stay(self):
        ahead = "A1 := 1, B2 := 2, C3 := 3, D5 := -4"
        self.assert_span(go, ahead, (0, 0, 1), (4, 4), "B1 := 2, C2 := 3, D4 := -4", "")
        self.assert_span(go, ahead, (0, 1, 2), (3, 4), "A1 := 1, D3 := -4", "")
        self.assert_span(go, ahead, (0, 4, 1), (4, 4), "A1 := 1, B2 := 2, C3 := 3", "")
        self.assert_span(go, ahead, (0, 3, 1), (4, 4), "A1 := 1, B2 := 2, C3 := 3, D4 := -4", "")
        self.assert_span(go, ahead, (0, 0, 4), (1, 4), "D1 := -4", "")
        self.assert_span(go, ahead, (1, 0, 2), (5, 2), "A3 := 3, B5 := -4", "")
        self.assert_span(go, ahead, (1, 3, 1), (5, 3), "A1 := 1, B2 := 2, C3 := 3", "")
        self.assert_span(go, ahead, (1, 1, 3), (5, 1), "A1 := 1", "")

    def test_references_are_taken_along(self):
        ahead = "A1 := 5, B3 := =A1+1, C1 := =B3*$B$3, D5 := =A5"
        self.assert_span(go, ahead, (0, 1, 1), (4, 4), "A1 := 5, B2 := =A1+1, C1 := =B2*$B$2, D4 := =A4", "")
        self.assert_span(go, ahead, (0, 3, 1), (4, 4), "A1 := 5, B3 := =A1+1, C1 := =B3*$B$3, D4 := =A4", "")

    def test_a_reference_that_goes(self):
        self.assert_span(go, "A1 := 5, B3 := =A1+A2, C3 := =B3, D3 := =A2", (0, 0, 1), (4, 4),
                         "B2 := =#+A1, C2 := =B2, D2 := =A1", "B2<B2 C2<B2")
        self.assert_span(go, "D1 := =C1+1, C1 := 2", (1, 2, 1), (5, 3), "C1 := =#+1", "C1<C1")
        # An empty place goes, and a fixed one.
        self.assert_span(go, "A1 := =$B$2", (0, 1, 1), (4, 4), "A1 := =#", "A1<A1")

    def test_a_formula_whose_reference_went_is_reckoned_though_it_shows_the_same(self):
        self.assert_span(go, "A1 := =PICK(1,7,B2), C1 := =A1", (0, 1, 1), (4, 4), "A1 := =PICK(1,7,#), C1 := =A1", "A1<A1")

    def test_an_area_that_loses_places_is_reckoned(self):
        ahead = "A1 := 1, A2 := 2, A3 := 3, C5 := =SUM(A1:A3), D5 := =C5"
        self.assert_span(go, ahead, (0, 0, 1), (4, 4), "A1 := 2, A2 := 3, C4 := =SUM(A1:A2), D4 := =C4", "C4<C4 D4<C4")
        self.assert_span(go, ahead, (0, 1, 1), (4, 4), "A1 := 1, A2 := 3, C4 := =SUM(A1:A2), D4 := =C4", "C4<C4 D4<C4")
        self.assert_span(go, ahead, (0, 2, 2), (3, 4), "A1 := 1, A2 := 2, C3 := =SUM(A1:A2), D3 := =C3", "C3<C3 D3<C3")
        self.assert_span(go, ahead, (0, 0, 3), (2, 4), "C2 := =SUM(#), D2 := =C2", "C2<C2 D2<C2")
        self.assert_span(go, ahead, (0, 3, 1), (4, 4), "A1 := 1, A2 := 2, A3 := 3, C4 := =SUM(A1:A3), D4 := =C4", "")
        self.assert_span(go, ahead, (1, 1, 1), (5, 3), "A1 := 1, A2 := 2, A3 := 3, B5 := =SUM(A1:A3), C5 := =B5", "")

    def test_empty_places_that_an_area_loses_count_too(self):
        self.assert_span(go, "A1 := 4, B1 := =SUM(A1:A3), C1 := =B1", (0, 1, 1), (4, 4),
                         "A1 := 4, B1 := =SUM(A1:A2), C1 := =B1", "B1<B1")

    def test_a_ring_that_is_moved(self):
        self.assert_span(go, "A1 := =B3, B3 := =A1, C1 := =B3", (0, 1, 1), (4, 4), "A1 := =B2, B2 := =A1, C1 := =B2", "")

    def test_a_ring_that_is_broken(self):
        self.assert_span(go, "A1 := =B2, B2 := =A1, C1 := =A1", (0, 1, 1), (4, 4), "A1 := =#, C1 := =A1", "A1<A1 C1<C1")
        self.assert_span(go, "A1 := =PICK(1,4,B2), B2 := =A1, C1 := =A1", (1, 1, 1), (5, 3), "A1 := =PICK(1,4,#), B1 := =A1",
                         "A1<A1 B1<B1")
        # What only leaned on the ring is reckoned because it showed ring.
        self.assert_span(go, "B1 := =B1+A1, C1 := =SUM(B1:B2), A1 := 3", (0, 0, 1), (4, 4), "", "")
        self.assert_span(go, "A5 := =A5, C1 := =SUM(A4:A5), D1 := =C1", (0, 4, 1), (4, 4), "C1 := =SUM(A4:A4), D1 := =C1",
                         "C1<C1 D1<D1")

    def test_down_to_the_least(self):
        self.assert_deed(go, opened(99, 26), (0, 0, 98), opened(1, 26), [])
        self.assert_deed(go, opened(99, 26), (0, 1, 98), opened(1, 26), [])
        self.assert_deed(go, opened(99, 26), (1, 1, 25), opened(99, 1), [])
        self.assert_deed(go, opened(2, 2), (0, 1, 1), opened(1, 2), [])


class Refusals(SpanCase):
    sheets = (opened(5, 4), sheet_of("A1 := 5, B2 := =SUM(A1:A2), D5 := =D5"))

    def assert_all_refused(self, error, deed, *told):
        for sheet in self.sheets:
            self.assert_refused(error, deed, sheet, *told)

    def test_an_axis_that_is_none(self):
        for deed, axis in itertools.product((come, go), (-1, 2, 3, -2, 10 ** 40)):
            self.assert_all_refused(BadSpan, deed, axis, 0, 1)
            # Ahead of all that would be refused besides.
            self.assert_all_refused(BadSpan, deed, axis, 0, 1000)
            self.assert_all_refused(BadSpan, deed, axis, -1, 0)

    def test_at_below_nought_or_more_than_there_are(self):
        for deed, (axis, there) in itertools.product((come, go), ((0, 5), (1, 4))):
            for at in (-1, -2, there + 1, there + 2, 99, -10 ** 40, 10 ** 40):
                self.assert_all_refused(BadSpan, deed, axis, at, 1)
                self.assert_all_refused(BadSpan, deed, axis, at, 1000)
                self.assert_all_refused(BadSpan, deed, axis, at, 0)

    def test_many_below_one(self):
        for deed, axis, many in itertools.product((come, go), (0, 1), (0, -1, -5, -10 ** 40)):
            for at in range(5):
                self.assert_all_refused(BadSpan, deed, axis, at, many)

    def test_come_at_each_edge(self):
        for at in (0, 1, 4, 5):
            self.assert_all_refused(TooGreat, come, 0, at, 95)
            self.assert_all_refused(TooGreat, come, 0, at, 10 ** 40)
            for sheet in self.sheets:
                self.assertEqual(come(sheet, 0, at, 94)[0][0], (99, 4))
        for at in (0, 1, 3, 4):
            self.assert_all_refused(TooGreat, come, 1, at, 23)
            for sheet in self.sheets:
                self.assertEqual(come(sheet, 1, at, 22)[0][0], (5, 26))
        self.assert_refused(TooGreat, come, opened(99, 1), 0, 0, 1)
        self.assert_refused(TooGreat, come, opened(1, 26), 1, 26, 1)
        # Each axis has its own bound.
        self.assertEqual(come(opened(26, 26), 0, 0, 1)[0][0], (27, 26))

    def test_a_bad_span_ahead_of_too_great(self):
        self.assert_all_refused(BadSpan, come, 0, -1, 95)
        self.assert_all_refused(BadSpan, come, 0, 6, 95)
        self.assert_all_refused(BadSpan, come, 1, 5, 23)
        self.assert_all_refused(BadSpan, come, 2, 0, 95)

    def test_go_with_fewer_than_many_from_at_on(self):
        for at in range(6):
            for many in range(1, 8):
                if many > 5 - at or many == 5:
                    self.assert_all_refused(BadSpan, go, 0, at, many)
                else:
                    self.assertEqual(go(self.sheets[0], 0, at, many)[0][0], (5 - many, 4))
        for at in range(5):
            for many in range(1, 7):
                if many > 4 - at or many == 4:
                    self.assert_all_refused(BadSpan, go, 1, at, many)
                else:
                    self.assertEqual(go(self.sheets[0], 1, at, many)[0][0], (5, 4 - many))
        self.assert_all_refused(BadSpan, go, 0, 0, 10 ** 40)

    def test_go_where_none_would_be_left(self):
        self.assert_all_refused(BadSpan, go, 0, 0, 5)
        self.assert_all_refused(BadSpan, go, 1, 0, 4)
        self.assert_refused(BadSpan, go, opened(1, 1), 0, 0, 1)
        self.assert_refused(BadSpan, go, opened(1, 1), 1, 0, 1)
        self.assert_refused(BadSpan, go, opened(99, 26), 0, 0, 99)
        self.assert_refused(BadSpan, go, opened(99, 26), 1, 0, 26)


class AgainstThePoint(SpanCase):
    texts = ("A1", "B2+1", "SUM(A1:B2)", "COUNT(B1:B4)", "MAX(A2:D2)", "$C$3-A$1", "PICK(A1,B3,D4)", "SUM(A1:D5)", "C3:C3",
             "#+D5", "SUM(B2:C3,A1,D1:D5)", "5")

    def some_sheet(self, chance):
        contents = {}
        for place in chance.sample(between((0, 0), (4, 3)), 9):
            text = chance.choice(self.texts)
            if text == "C3:C3":
                contents[place] = over(area((2, 2), (2, 2)), word="COUNT")
            else:
                contents[place] = chance.choice((chance.randint(-3, 3), read_formula(text)))
        return ((5, 4), contents, from_start(contents))

    def told_plainly(self, sheet, size, place_behind, tree_behind):
        contents, others = {}, []
        for place, content in sheet[1].items():
            behind = place_behind(place)
            if behind is None:
                continue
            contents[behind] = content
            if isinstance(content, tuple):
                contents[behind] = tree_behind(content)
                if meant(contents[behind]) != [place_behind(other) for other in meant(content)]:
                    others.append(behind)
        ahead = {place_behind(place): value for place, value in sheet[2].items()}
        ahead.pop(None, None)
        shown, log = settled_plainly(contents, ahead, others)
        return (size, contents, shown), log

    def test_come(self):
        chance = random.Random(72)
        for time in range(400):
            sheet = self.some_sheet(chance)
            axis = chance.choice((0, 1))
            at, many = chance.randint(0, sheet[0][axis]), chance.randint(1, 3)
            size = (5 + many, 4) if axis == 0 else (5, 4 + many)
            wanted = self.told_plainly(sheet, size, lambda place: come_place(place, axis, at, many),
                                       lambda tree: come_tree(tree, axis, at, many))
            self.assert_deed(come, sheet, (axis, at, many), *wanted)
            self.assert_whole(wanted[0])

    def test_go(self):
        chance = random.Random(73)
        for time in range(400):
            sheet = self.some_sheet(chance)
            axis = chance.choice((0, 1))
            many = chance.randint(1, sheet[0][axis] - 1)
            at = chance.randint(0, sheet[0][axis] - many)
            size = (5 - many, 4) if axis == 0 else (5, 4 - many)
            wanted = self.told_plainly(sheet, size, lambda place: go_place(place, axis, at, many),
                                       lambda tree: go_tree(tree, axis, at, many))
            self.assert_deed(go, sheet, (axis, at, many), *wanted)
            self.assert_whole(wanted[0])

    def assert_whole(self, sheet):
        size, contents, shown = sheet
        self.assertEqual(repr(shown), repr(from_start(contents)))
        for place, content in contents.items():
            self.assertTrue(inside(size, place))
            for other in meant(content) if isinstance(content, tuple) else ():
                self.assertTrue(inside(size, other))

    def test_come_and_go_again(self):
        chance = random.Random(74)
        for time in range(200):
            sheet = self.some_sheet(chance)
            axis = chance.choice((0, 1))
            at, many = chance.randint(0, sheet[0][axis]), chance.randint(1, 3)
            there = come(sheet, axis, at, many)[0]
            back = go(there, axis, at, many)[0]
            self.assertEqual(back, sheet)


class WhatIsTold(SpanCase):
    def test_what_is_done_later_changes_nothing_told(self):
        sheet = sheet_of("A1 := 5, B2 := =SUM(A1:A2)")
        first, log = come(sheet, 0, 1, 1)
        second = go(first, 0, 0, 1)[0]
        come(second, 1, 0, 2)
        self.assertEqual(log, [((2, 1), (2, 1))])
        self.assertEqual(first, sheet_of("A1 := 5, B3 := =SUM(A1:A3)", (6, 4)))
        self.assertEqual(second, sheet_of("B2 := =SUM(A1:A2)", (5, 4)))
        self.assertEqual(sheet, sheet_of("A1 := 5, B2 := =SUM(A1:A2)"))

    def test_a_whole_sheet(self):
        whole = between((0, 0), (97, 25))
        contents = {place: two("+", ref(*whole[at - 1]), num(1)) if at else 1 for at, place in enumerate(whole)}
        sheet = ((98, 26), contents, from_start(contents))
        behind, log = come(sheet, 0, 50, 1)
        self.assertEqual(log, [])
        self.assertEqual(list(behind[2].values()), list(range(1, 98 * 26 + 1)))
        behind, log = go(sheet, 0, 0, 1)
        self.assertEqual(log[:2], [((0, 0), (0, 0)), ((0, 1), (0, 0))])
        self.assertEqual(len(log), 97 * 26)
        self.assertEqual(set(behind[2].values()), {"gone"})

    def test_numbers_and_empty_cells_are_never_other(self):
        self.assertEqual(come(sheet_of("A1 := 5, A2 := 6"), 0, 1, 1)[1], [])
        self.assertEqual(cells("A1 := 5, A3 := 6"), come(sheet_of("A1 := 5, A2 := 6"), 0, 1, 1)[0][1])


if __name__ == "__main__":
    unittest.main()
