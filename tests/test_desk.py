"""Points 81 and 82: slate/desk.py."""

import copy
import unittest

from making import cells, num, ref, sheet_of
from slate.desk import done, run
from slate.settling import from_start
from slate.sheets import opened

BOUND = "1" + "0" * 30


class DeskCase(unittest.TestCase):
    def assert_done(self, sheet, text, answer, behind):
        """That a row answers this and leaves a sheet with this size, these contents and this shown."""
        kept = copy.deepcopy(sheet)
        for time in range(2):
            found = done(sheet, text)
            self.assertEqual([len(found), isinstance(found, tuple)], [2, True])
            self.assertEqual(repr(found[1]), repr(answer), text)
            self.assertEqual(found[0], behind, text)
            self.assertEqual(repr(found[0][2]), repr(behind[2]), text)
            self.assertEqual(repr(sheet), repr(kept), text)

    def assert_deed(self, ahead, text, answer, behind, size=(5, 4)):
        self.assert_done(sheet_of(ahead), text, answer, sheet_of(behind, size))

    def assert_question(self, ahead, text, answer):
        self.assert_done(sheet_of(ahead), text, answer, sheet_of(ahead))

    def assert_refused(self, ahead, text, name):
        self.assert_question(ahead, text, "refused: " + name)

    def assert_run(self, *pairs):
        """Pairs of a row and its answer, one behind the other."""
        texts = [text for text, answer in pairs]
        kept = list(texts)
        for time in range(2):
            self.assertEqual(repr(run(texts)), repr([answer for text, answer in pairs]))
            self.assertEqual(texts, kept)


class Deeds(DeskCase):
    def test_put(self):
        self.assert_deed("", "A1 := 12", "-", "A1 := 12")
        self.assert_deed("", "A1 := -3", "-", "A1 := -3")
        self.assert_deed("", "A1 := =B2+1", "A1<A1", "A1 := =B2+1")
        self.assert_deed("A1 := 5", "A1 :=", "-", "")
        self.assert_deed("", "D5 := " + BOUND, "-", "D5 := " + BOUND)
        self.assert_deed("", "D5 := -" + BOUND, "-", "D5 := -" + BOUND)

    def test_the_log_with_one_blank_between(self):
        self.assert_deed("A1 := 1, B2 := =A1, C3 := =B2+A1", "A1 := 7", "B2<A1 C3<A1", "A1 := 7, B2 := =A1, C3 := =B2+A1")
        self.assert_deed("A1 := 1, B2 := =A1", "A1 :=", "B2<A1", "B2 := =A1")
        self.assert_deed("A1 := =B1, B1 := =C1, C1 := 2, D1 := =A1", "C1 := 3", "B1<C1 A1<B1 D1<A1",
                         "A1 := =B1, B1 := =C1, C1 := 3, D1 := =A1")

    def test_an_empty_log(self):
        self.assert_deed("A1 := 1, B2 := =A1", "A1 := 1", "-", "A1 := 1, B2 := =A1")
        self.assert_deed("B1 := =A1", "A1 := =B1", "-", "B1 := =A1, A1 := =B1")

    def test_a_formulas_blanks(self):
        self.assert_deed("", "A1 := = B2 + 1  ", "A1<A1", "A1 := =B2+1")

    def test_copy(self):
        self.assert_deed("A1 := =B2", "copy A1 B2", "B2<B2 A1<B2", "A1 := =B2, B2 := =C3")
        self.assert_deed("A1 := 5", "copy A1 D5", "-", "A1 := 5, D5 := 5")
        self.assert_deed("A1 := 5", "copy B1 A1", "-", "")

    def test_rows_and_columns_are_told_from_one_on(self):
        ahead = "A2 := 2, A3 := 3, B5 := =SUM(A2:A3), C1 := =B5"
        self.assert_deed(ahead, "rows come 3 2", "B7<B7", "A2 := 2, A5 := 3, B7 := =SUM(A2:A5), C1 := =B7", (7, 4))
        self.assert_deed(ahead, "rows come 1 1", "-", "A3 := 2, A4 := 3, B6 := =SUM(A3:A4), C2 := =B6", (6, 4))
        self.assert_deed(ahead, "rows come 6 1", "-", ahead, (6, 4))
        self.assert_deed(ahead, "rows go 3 2", "B3<B3 C1<B3", "A2 := 2, B3 := =SUM(A2:A2), C1 := =B3", (3, 4))
        self.assert_deed(ahead, "rows go 1 1", "-", "A1 := 2, A2 := 3, B4 := =SUM(A1:A2)", (4, 4))
        self.assert_deed(ahead, "columns come 2 1", "-", "A2 := 2, A3 := 3, C5 := =SUM(A2:A3), D1 := =C5", (5, 5))
        self.assert_deed(ahead, "columns come 5 2", "-", ahead, (5, 6))
        self.assert_deed(ahead, "columns go 1 1", "A5<A5 B1<A5", "A5 := =SUM(#), B1 := =A5", (5, 3))
        self.assert_deed(ahead, "columns go 4 1", "-", ahead, (5, 3))

    def test_size(self):
        for ahead in ("", "A1 := 5, B1 := =B1"):
            self.assert_deed(ahead, "size 9 4", "done", "", (9, 4))
            self.assert_deed(ahead, "size 99 26", "done", "", (99, 26))
            self.assert_deed(ahead, "size 1 1", "done", "", (1, 1))
            self.assert_deed(ahead, "size 5 4", "done", "")


class Questions(DeskCase):
    ahead = ("A1 := 12, B1 := -3, C1 := 0, D1 := =A1/B1, A2 := =#, B2 := =1/0, C2 := =D2*D2, D2 := 999999999999999999, "
             "A3 := =C3, C3 := =B3, B3 := =A3, D3 := =SUM(A3,1), A4 := =$A$1 - (1-2)")

    def test_show(self):
        for name, answer in (("A1", "12"), ("B1", "-3"), ("C1", "0"), ("D1", "-4"), ("A2", "gone"), ("B2", "nought"),
                             ("C2", "great"), ("A3", "ring"), ("D3", "ring"), ("A4", "13"), ("A5", "-"), ("D5", "-")):
            self.assert_question(self.ahead, "show " + name, answer)

    def test_show_none(self):
        # A formula that is told to show None, as an empty cell does.
        self.assert_done(((5, 4), {(0, 0): num(1)}, {(0, 0): None}), "show A1", "-", ((5, 4), {(0, 0): num(1)}, {(0, 0): None}))

    def test_text(self):
        for name, answer in (("A1", "12"), ("B1", "-3"), ("C1", "0"), ("D1", "=A1/B1"), ("A2", "=#"), ("B2", "=1/0"),
                             ("D3", "=SUM(A3,1)"), ("A4", "=$A$1-(1-2)"), ("A5", "-"), ("D5", "-")):
            self.assert_question(self.ahead, "text " + name, answer)

    def test_ring(self):
        for name in ("A3", "B3", "C3", "D3"):
            self.assert_question(self.ahead, "ring " + name, "A3<C3<B3")
        self.assert_question("A1 := =A1", "ring A1", "A1")
        self.assert_question("D5 := =A1, A1 := =D5", "ring D5", "A1<D5")

    def test_a_question_gives_the_sheet_as_it_is(self):
        sheet = sheet_of(self.ahead)
        for text in ("show A1", "text A3", "ring A3", "ring A1", "show Z9", "nothing"):
            self.assertEqual(done(sheet, text)[0], sheet)


class Refusals(DeskCase):
    ahead = "A1 := 5, B1 := =A1, C1 := =C1"

    def assert_each(self, name, *texts):
        for text in texts:
            self.assert_refused("", text, name)
            self.assert_refused(self.ahead, text, name)

    def test_bad_row(self):
        self.assert_each("BadRow", "", " ", "hello", "A1", "A1 := ", "A1 :=5", "A1 :==1", "a1 := 5", "A1 := 007", "A1 := -0",
                         "A1 := " + "9" * 41, "show", "show a1", "show A1 ", " show A1", "Rows come 3 2", "rows come -1 2",
                         "rows come 3", "copy A1", "copy A1 B2 C3", "size 9", "size -1 4", "shows A1", "A0 := 5",
                         "show A100", "A1 := 5\n", "\n", "\t")

    def test_bad_formula(self):
        self.assert_each("BadFormula", "A1 := =", "A1 := =1+", "A1 := = ", "A1 := =AB1", "A1 := =B1:B2", "A1 := =1\t", "Z99 := =)")

    def test_too_great(self):
        self.assert_each("TooGreat", "A1 := 1" + BOUND[1:-1] + "1", "A1 := -" + BOUND[:-1] + "1", "A1 := " + "9" * 40,
                         "A1 := =" + "-" * 12 + "1", "A1 := =" + "1+" * 60 + "1", "A1 := =" + " " * 6001, "rows come 1 95",
                         "rows come 6 " + "9" * 40, "columns come 1 23")

    def test_outside(self):
        self.assert_each("Outside", "E1 := 5", "A6 := 5", "A6 :=", "A1 := =E1", "A1 := =A6", "A1 := =SUM(A1:E1)", "copy A1 A6",
                         "copy E1 A1", "show A6", "text E1", "ring Z99", "show E1", "E1 := " + "9" * 40)

    def test_no_ring(self):
        self.assert_each("NoRing", "ring A1", "ring B1", "ring D5")

    def test_bad_span(self):
        self.assert_each("BadSpan", "rows come 0 2", "rows go 0 1", "columns come 0 1", "rows come 7 1", "columns come 6 1",
                         "rows come 1 0", "rows go 1 0", "rows go 5 2", "rows go 6 1", "rows go 1 5", "columns go 1 4",
                         "columns go 4 2", "rows come 7 95", "rows come 0 " + "9" * 40)

    def test_bad_size(self):
        self.assert_each("BadSize", "size 0 4", "size 9 0", "size 100 4", "size 9 27", "size 0 0", "size " + "9" * 40 + " 1")

    def test_bad_place(self):
        # No row comes to a place without a name, but over a sheet that is itself beyond the bounds.
        sheet = ((120, 30), {(110, 2): ref(0, 0), (0, 2): ref(110, 0)}, {(110, 2): 0, (0, 2): 0})
        self.assert_done(sheet, "A1 := 5", "refused: BadPlace", sheet)
        self.assert_done(sheet, "text C1", "refused: BadPlace", sheet)

    def test_a_row_is_read_whole_ahead_of_any_look_at_the_sheet(self):
        self.assert_each("BadFormula", "Z99 := =1+", "A9 := =")
        self.assert_each("TooGreat", "Z99 := =" + "-" * 12 + "1")
        self.assert_each("BadRow", "copy Z99 a1", "rows come 0 x", "size 0 x", "a1 := =1+", "A100 := =" + " " * 6001)

    def test_a_refused_row_leaves_the_sheet(self):
        self.assert_run(("A1 := 5", "-"), ("A1 := =1+", "refused: BadFormula"), ("A1 := =F1", "refused: Outside"),
                        ("size 0 0", "refused: BadSize"), ("rows go 1 5", "refused: BadSpan"), ("A1 := ", "refused: BadRow"),
                        ("A1 := " + "9" * 40, "refused: TooGreat"), ("ring A1", "refused: NoRing"), ("show A1", "5"),
                        ("text A1", "5"))


class Run(DeskCase):
    def test_no_rows(self):
        self.assert_run()

    def test_five_rows_and_five_columns_at_first(self):
        self.assert_run(("E5 := 1", "-"), ("F1 := 1", "refused: Outside"), ("A6 := 1", "refused: Outside"), ("show E5", "1"))
        self.assert_run(("rows come 6 94", "-"), ("rows come 1 1", "refused: TooGreat"))
        self.assert_run(("columns come 6 21", "-"), ("columns come 1 1", "refused: TooGreat"))
        self.assert_run(("rows go 2 4", "-"), ("rows go 1 1", "refused: BadSpan"))

    def test_rows_one_behind_the_other(self):
        self.assert_run(("A1 := 12", "-"), ("B1 := =A1*2", "B1<B1"), ("C1 := =SUM(A1:B1)", "C1<C1"), ("show C1", "36"),
                        ("A1 := -3", "B1<A1 C1<A1"), ("show C1", "-9"), ("rows come 1 1", "-"), ("text C2", "=SUM(A2:B2)"),
                        ("columns go 1 1", "A2<A2 B2<B2"), ("text A2", "=#*2"), ("text B2", "=SUM(A2:A2)"), ("show B2", "gone"),
                        ("A2 := =B2", "-"), ("ring B2", "A2<B2"), ("A2 :=", "B2<B2"), ("show B2", "0"), ("text A2", "-"),
                        ("size 2 2", "done"), ("show B2", "-"), ("text B2", "-"), ("C1 := 1", "refused: Outside"))

    def test_each_run_begins_anew(self):
        self.assertEqual(run(["A1 := 5", "size 2 2", "show A1"]), ["-", "done", "-"])
        self.assertEqual(run(["show A1", "show E5"]), ["-", "-"])

    def test_as_done_does_row_by_row(self):
        texts = ["A1 := 3", "B1 := =A1+1", "C2 := =B1*A1", "oops", "A1 := 4", "copy C2 D3", "rows come 2 1", "show C3", "text D4",
                 "columns go 2 1", "show B3", "text B3", "ring B3", "B3 := =B3", "ring B3", "size 3 3", "show A1"]
        sheet = opened(5, 5)
        answers = []
        for text in texts:
            sheet, answer = done(sheet, text)
            answers.append(answer)
        self.assertEqual(run(texts), answers)
        self.assertEqual(len(set(answers)), 14)

    def test_a_list_that_was_told_and_then_changed_changes_no_later_answer(self):
        texts = ["A1 := =1+1", "show A1"]
        run(texts).clear()
        self.assertEqual(run(texts), ["A1<A1", "2"])
        self.assertEqual(texts, ["A1 := =1+1", "show A1"])

    def test_many_rows(self):
        texts = ["size 99 26", "A1 := 1"]
        for row in range(2, 100):
            texts.append(f"A{row} := =A{row - 1}+1")
        texts.extend(["show A99", "A1 := 2", "show A99", "A1 := =A99", "ring A50", "show A98"])
        answers = run(texts)
        self.assertEqual(answers[:3], ["done", "-", "A2<A2"])
        self.assertEqual(answers[-6], "99")
        self.assertEqual(answers[-5], " ".join(f"A{row}<A{row - 1}" for row in range(2, 100)))
        self.assertEqual(answers[-4:-2], ["100", "-"])
        self.assertEqual(answers[-2], "<".join(["A1"] + [f"A{row}" for row in range(99, 1, -1)]))
        self.assertEqual(answers[-1], "ring")


class WhatIsTold(DeskCase):
    def test_what_is_done_later_changes_nothing_told(self):
        first = done(opened(5, 5), "A1 := =SUM(B1,1)")[0]
        second = done(first, "B1 := 4")[0]
        done(second, "rows come 1 1")
        done(second, "A1 :=")
        contents = cells("A1 := =SUM(B1,1)")
        self.assertEqual(first, ((5, 5), contents, from_start(contents)))
        self.assertEqual(second, sheet_of("A1 := =SUM(B1,1), B1 := 4", (5, 5)))

    def test_a_new_sheet_is_the_askers_own(self):
        first = done(opened(5, 5), "size 3 3")[0]
        first[1][(0, 0)] = 5
        self.assertEqual(done(opened(5, 5), "size 3 3")[0], ((3, 3), {}, {}))


if __name__ == "__main__":
    unittest.main()
