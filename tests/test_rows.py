"""Points 81 and 82: slate/rows.py."""

import itertools
import unittest

from making import minus, num, over, ref, two
from slate.errors import BadFormula, BadRow, SlateError, TooGreat
from slate.places import place_name
from slate.reading import read_formula
from slate.rows import read_row

# What is no name of a place.
NO_NAMES = ("a1", "A0", "A01", "A100", "A", "1", "AB1", "1A", "$A1", "A$1", "A-1", "", "A1:", "A1,", "A1\t", "\tA1", "A1\n",
            "\nA1", "#", "A1=", "A1:B2", "A1.", "-", "copy")
# What is no number anywhere in a row.
NO_NUMBERS = ("+3", "007", "00", "01", "3.0", "1e3", "1_000", "x", "A1", "", "--3", "- 3", "3-", "3\t", "\t3", "3\n", "0x1",
              "1" * 41, "9" * 41, "1" * 5000, "1,000", "(3)", ":", "#", "-", "+0")


class RowCase(unittest.TestCase):
    def assert_row(self, text, row):
        for time in range(2):
            self.assertEqual(repr(read_row(text)), repr(row), text)

    def assert_refused(self, text, error=BadRow):
        with self.assertRaises(error) as caught:
            read_row(text)
        self.assertIsInstance(caught.exception, SlateError)

    def assert_none(self, *texts):
        for text in texts:
            self.assert_refused(text)


class Put(RowCase):
    def test_a_number(self):
        for text, number in (("12", 12), ("-3", -3), ("0", 0), ("7", 7), ("-10", -10), ("100", 100)):
            self.assert_row("A1 := " + text, ("put", (0, 0), number))

    def test_numbers_that_are_none(self):
        self.assert_none(*["A1 := " + text for text in NO_NUMBERS])
        self.assert_none("A1 := -0", "A1 := -00", "A1 := -007", "A1 := -+3", "A1 := +-3", "A1 := -A1")

    def test_forty_figures_and_one_more(self):
        self.assert_row("A1 := " + "9" * 40, ("put", (0, 0), 10 ** 40 - 1))
        self.assert_row("A1 := -" + "9" * 40, ("put", (0, 0), 1 - 10 ** 40))
        self.assert_row("A1 := 1" + "0" * 39, ("put", (0, 0), 10 ** 39))
        self.assert_none("A1 := " + "9" * 41, "A1 := -" + "9" * 41, "A1 := 1" + "0" * 40, "A1 := 0" + "9" * 39)

    def test_nothing(self):
        self.assert_row("A1 :=", ("put", (0, 0), None))
        self.assert_row("Z99 :=", ("put", (98, 25), None))

    def test_a_formula(self):
        self.assert_row("A1 := =B2+1", ("put", (0, 0), two("+", ref(1, 1), num(1))))
        self.assert_row("C7 := =7", ("put", (6, 2), num(7)))
        self.assert_row("A1 := =-3", ("put", (0, 0), minus(num(3))))
        self.assert_row("A1 := =SUM(A1,2)", ("put", (0, 0), over(ref(0, 0), num(2))))

    def test_a_formulas_blanks(self):
        wanted = ("put", (0, 0), two("+", ref(1, 1), num(1)))
        for text in (" B2+1", "B2+1 ", "  B2  +  1  ", "B2 + 1", "B2+1" + " " * 50):
            self.assert_row("A1 := =" + text, wanted)

    def test_each_place(self):
        for place in itertools.product((0, 1, 9, 98), (0, 1, 25)):
            self.assert_row(place_name(place) + " := 5", ("put", place, 5))
            self.assert_row(place_name(place) + " :=", ("put", place, None))

    def test_names_that_are_none(self):
        for name in NO_NAMES:
            self.assert_none(name + " := 5", name + " :=", name + " := =1")

    def test_the_sign_stands_by_itself(self):
        self.assert_none("A1 := ", "A1 :=  ", "A1 :=5", "A1:= 5", "A1:=5", "A1 :==1", "A1 :== 1", "A1 = 5", "A1 =5", "A1 : = 5",
                         "A1 =: 5", "A1 := := 5", "A1", "A1 5", "A1 =1", ":= 5", ":=", "A1:=", "A1 B1 := 5", "A1 :=\t5")

    def test_blanks_ahead_behind_and_two(self):
        self.assert_none(" A1 := 5", "A1 := 5 ", "A1  := 5", "A1 :=  5", "A1 :=  =1", " A1 :=", "A1  :=", " A1 := =1",
                         "A1  := =1", "\tA1 := 5", "A1\t:= 5", "A1 := 5\n", "\nA1 := 5", "A1 := 1 2", "A1 := - 3")

    def test_a_formula_that_is_refused(self):
        for text in ("", " ", "1+", ")", "B2+", "=1", "1 2", "1\t", "1\n", "\n1", "a1", "A01", "SUM()", "PICK(1,2)", "A1:B2"):
            self.assert_refused("A1 := =" + text, BadFormula)

    def test_the_formulas_error_comes_out_as_it_is(self):
        for text in ("B2+", "  )", "1 + @", ""):
            with self.assertRaises(BadFormula) as wanted:
                read_formula(text)
            with self.assertRaises(BadFormula) as caught:
                read_row("A1 := =" + text)
            self.assertEqual(caught.exception.at, wanted.exception.at)

    def test_a_formula_that_is_too_great(self):
        self.assert_refused("A1 := =" + "-" * 12 + "1", TooGreat)
        self.assert_refused("A1 := =" + "1+" * 60 + "1", TooGreat)
        self.assert_refused("A1 := =1" + " " * 6000, TooGreat)
        self.assert_refused("A1 := =" + ")" * 6001, TooGreat)
        self.assert_row("A1 := =1" + " " * 5999, ("put", (0, 0), num(1)))
        self.assert_row("A1 := =" + "-" * 11 + "1", ("put", (0, 0), read_formula("-" * 11 + "1")))

    def test_a_name_that_is_none_ahead_of_what_a_formula_is_refused_for(self):
        for name in NO_NAMES:
            self.assert_none(name + " := =", name + " := =1+", name + " := =" + ")" * 6001, name + " := =" + "-" * 12 + "1")


class Copy(RowCase):
    def test_ordinary_rows(self):
        self.assert_row("copy A1 B2", ("copy", (0, 0), (1, 1)))
        self.assert_row("copy Z99 A1", ("copy", (98, 25), (0, 0)))
        self.assert_row("copy C3 C3", ("copy", (2, 2), (2, 2)))

    def test_names_that_are_none(self):
        for name in NO_NAMES:
            self.assert_none("copy A1 " + name, "copy " + name + " A1", "copy " + name + " " + name)

    def test_words_too_few_and_too_many(self):
        self.assert_none("copy", "copy A1", "copy A1 B2 C3", "copy ", "copy A1 ", "copy A1 B2 ", " copy A1 B2", "copy  A1 B2",
                         "copy A1  B2", "copy\tA1 B2", "copy A1\tB2", "copy A1 B2\n", "copy := 5", "copy :=", "copy := =1+")


class ComeAndGo(RowCase):
    def test_each_of_the_four(self):
        self.assert_row("rows come 3 2", ("come", 0, 2, 2))
        self.assert_row("rows go 3 2", ("go", 0, 2, 2))
        self.assert_row("columns come 3 2", ("come", 1, 2, 2))
        self.assert_row("columns go 3 2", ("go", 1, 2, 2))

    def test_any_numbers_from_nought_on(self):
        self.assert_row("rows come 0 2", ("come", 0, -1, 2))
        self.assert_row("columns go 0 0", ("go", 1, -1, 0))
        self.assert_row("rows go 1 0", ("go", 0, 0, 0))
        self.assert_row("columns come 1 100", ("come", 1, 0, 100))
        self.assert_row("rows come " + "9" * 40 + " " + "8" * 40, ("come", 0, 10 ** 40 - 2, int("8" * 40)))

    def test_numbers_that_are_none(self):
        for axis, way, wrong in itertools.product(("rows", "columns"), ("come", "go"), NO_NUMBERS + ("-1", "-3", "-0")):
            self.assert_none(f"{axis} {way} {wrong} 2", f"{axis} {way} 3 {wrong}")

    def test_words_that_are_almost_one_of_these(self):
        for axis in ("Rows", "row", "ROWS", "Columns", "column", "cols", "rowss", "size", "copy", "show", "", "A1", "rows,"):
            self.assert_none(axis + " come 3 2", axis + " go 3 2")
        for way in ("Come", "comes", "coming", "Go", "goes", "gone", "stay", "", "3", ":"):
            self.assert_none("rows " + way + " 3 2", "columns " + way + " 3 2")

    def test_words_too_few_and_too_many(self):
        for begin in ("rows come", "rows go", "columns come", "columns go"):
            self.assert_none(begin, begin + " ", begin + " 3", begin + " 3 ", begin + " 3 2 ", begin + " 3 2 1", " " + begin + " 3 2",
                             begin + "  3 2", begin + " 3  2", begin + "\t3 2", begin + " 3\t2", begin + " 3 2\n", begin + " A1 2")
        self.assert_none("rows", "columns", "rows 3 2", "come 3 2", "rows  come 3 2", "rows := 5", "columns := =1")


class Size(RowCase):
    def test_ordinary_rows(self):
        self.assert_row("size 9 4", ("size", 9, 4))
        self.assert_row("size 99 26", ("size", 99, 26))
        self.assert_row("size 1 1", ("size", 1, 1))

    def test_sizes_out_of_bounds_are_read(self):
        self.assert_row("size 0 0", ("size", 0, 0))
        self.assert_row("size 100 27", ("size", 100, 27))
        self.assert_row("size " + "9" * 40 + " 1", ("size", 10 ** 40 - 1, 1))

    def test_numbers_that_are_none(self):
        for wrong in NO_NUMBERS + ("-1", "-0"):
            self.assert_none("size " + wrong + " 4", "size 9 " + wrong)

    def test_words_too_few_and_too_many(self):
        self.assert_none("size", "size 9", "size 9 4 1", "size ", "size 9 ", "size 9 4 ", " size 9 4", "size  9 4", "size 9  4",
                         "Size 9 4", "sizes 9 4", "size\t9 4", "size 9 4\n", "size 9x4", "size := 5", "size A1")


class Questions(RowCase):
    def test_ordinary_rows(self):
        for word in ("show", "text", "ring"):
            self.assert_row(word + " A1", (word, (0, 0)))
            self.assert_row(word + " Z99", (word, (98, 25)))
            self.assert_row(word + " B10", (word, (9, 1)))

    def test_names_that_are_none(self):
        for word, name in itertools.product(("show", "text", "ring"), NO_NAMES):
            self.assert_none(word + " " + name)

    def test_words_too_few_and_too_many(self):
        for word in ("show", "text", "ring"):
            self.assert_none(word, word + " ", word + " A1 ", word + "  A1", " " + word + " A1", word + " A1 B1", word + "\tA1",
                             word + " A1\n", word + "\nA1", word.upper() + " A1", word.title() + " A1", word + "s A1",
                             word[:-1] + " A1", word + "A1", word + " :=", word + " := 5", word + " 5")


class NoRow(RowCase):
    def test_nothing_and_blanks(self):
        self.assert_none("", " ", "  ", "\t", "\n", " \n", "   :=   ", "\t\t")

    def test_other_words(self):
        self.assert_none("help", "A1", "5", "=1", "=", "-", "open A1", "come 3 2", "put A1 5", "done", "show", "#", "A1 := 5; B1 := 6",
                         "A1 := 5\nB1 := 6", "come 0 2 2", "go 0 1 1", "x y", "x y z", "x y z u", "x y z u v")

    def test_a_long_text(self):
        self.assert_none("x" * 100000, "x " * 50000, "9" * 100000, "A1 := " + "9" * 100000)


class WhatIsTold(RowCase):
    def test_a_tree_that_was_told_and_then_changed_changes_no_later_answer(self):
        text = "A1 := =SUM(A1,2)"
        read_row(text)[2][2].clear()
        self.assert_row(text, ("put", (0, 0), over(ref(0, 0), num(2))))


if __name__ == "__main__":
    unittest.main()
