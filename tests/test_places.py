"""Points 11, 12 and 13: slate/places.py."""

import unittest

from slate.errors import BadPlace
from slate.places import between, in_order, inside, place_name, place_of

LETTERS = "ABCDEFGHIJKLMNOPQRSTUVWXYZ"
FAR = 10 ** 30
# Longer than Python writes out without being told to.
VERY_FAR = 10 ** 5000


class Names(unittest.TestCase):
    def test_names_that_the_document_tells(self):
        for place, name in (((0, 0), "A1"), ((98, 25), "Z99"), ((2, 1), "B3")):
            self.assertEqual(place_name(place), name)
            self.assertEqual(place_of(name), place)

    def test_edges(self):
        for place, name in (((0, 25), "Z1"), ((98, 0), "A99"), ((8, 0), "A9"), ((9, 0), "A10"), ((97, 24), "Y98")):
            self.assertEqual(place_name(place), name)
            self.assertEqual(place_of(name), place)

    def test_every_place_has_its_name(self):
        for row in range(99):
            for column in range(26):
                name = LETTERS[column] + str(row + 1)
                self.assertEqual(place_name((row, column)), name)
                self.assertEqual(place_of(name), (row, column))

    def test_a_place_is_told_as_a_pair(self):
        self.assertIs(type(place_of("C7")), tuple)
        self.assertIs(type(place_name((6, 2))), str)


class NoNames(unittest.TestCase):
    def refused(self, text):
        with self.assertRaises(BadPlace, msg=repr(text)):
            place_of(text)

    def test_out_of_bounds(self):
        for row in (-VERY_FAR, -FAR, -99, -2, -1, 99, 100, 1000, FAR, VERY_FAR):
            for column in (0, 25):
                with self.assertRaises(BadPlace):
                    place_name((row, column))
        for column in (-VERY_FAR, -FAR, -26, -2, -1, 26, 27, 1000, FAR, VERY_FAR):
            for row in (0, 98):
                with self.assertRaises(BadPlace):
                    place_name((row, column))

    def test_both_out_of_bounds(self):
        for place in ((-1, -1), (99, 26), (-1, 26), (99, -1)):
            with self.assertRaises(BadPlace):
                place_name(place)

    def test_nothing_and_too_little(self):
        for text in ("", " ", "A", "Z", "1", "9", "12", "123", "AB", "ABC"):
            self.refused(text)

    def test_letters(self):
        for text in ("a1", "z99", "b12", "AA1", "AB1", "AB12", "A1B", "A1A1", "1A", "11A"):
            self.refused(text)

    def test_noughts_ahead(self):
        for text in ("A0", "A00", "A01", "A09", "Z0", "A012", "A001"):
            self.refused(text)

    def test_too_many_figures(self):
        for text in ("A100", "A123", "A999", "Z100", "A1000", "A" + "9" * 50, "A" + "1" * 5000):
            self.refused(text)

    def test_signs(self):
        for text in ("A+1", "A-1", "+A1", "-A1", "$A1", "A$1", "$A$1", "#", "A#", "A1#", "A.1", "A1.", "A1:", "A_1"):
            self.refused(text)

    def test_blanks_tabs_and_line_ends(self):
        for blank in (" ", "\t", "\n", "\r"):
            for text in (blank + "A1", "A" + blank + "1", "A1" + blank, "A12" + blank, "A1" + blank + "2", "A" + blank):
                self.refused(text)

    def test_every_other_sign_in_each_spot(self):
        for code in [9, 10, 13] + list(range(32, 127)):
            sign = chr(code)
            if not "A" <= sign <= "Z":
                self.refused(sign + "1")
                self.refused(sign + "12")
            if not "1" <= sign <= "9":
                self.refused("A" + sign)
                self.refused("A" + sign + "1")
            if not "0" <= sign <= "9":
                self.refused("A1" + sign)


class Inside(unittest.TestCase):
    def test_ordinary(self):
        self.assertIs(inside((5, 4), (0, 0)), True)
        self.assertIs(inside((5, 4), (4, 3)), True)
        self.assertIs(inside((5, 4), (4, 0)), True)
        self.assertIs(inside((5, 4), (0, 3)), True)
        self.assertIs(inside((1, 1), (0, 0)), True)
        self.assertIs(inside((99, 26), (98, 25)), True)

    def test_at_the_size(self):
        self.assertIs(inside((5, 4), (5, 3)), False)
        self.assertIs(inside((5, 4), (4, 4)), False)
        self.assertIs(inside((5, 4), (5, 4)), False)
        self.assertIs(inside((1, 1), (1, 0)), False)
        self.assertIs(inside((1, 1), (0, 1)), False)
        self.assertIs(inside((99, 26), (99, 25)), False)
        self.assertIs(inside((99, 26), (98, 26)), False)

    def test_below_nought(self):
        for place in ((-1, 0), (0, -1), (-1, -1), (-5, -4), (-FAR, 0), (0, -FAR)):
            self.assertIs(inside((5, 4), place), False)

    def test_far_beyond(self):
        for place in ((FAR, 0), (0, FAR), (FAR, FAR), (FAR, -FAR)):
            self.assertIs(inside((99, 26), place), False)

    def test_rows_and_columns_are_not_taken_for_one_another(self):
        self.assertIs(inside((2, 9), (1, 8)), True)
        self.assertIs(inside((2, 9), (8, 1)), False)
        self.assertIs(inside((9, 2), (8, 1)), True)
        self.assertIs(inside((9, 2), (1, 8)), False)


class Between(unittest.TestCase):
    def test_ordinary_and_in_order(self):
        self.assertEqual(between((1, 2), (2, 4)), [(1, 2), (1, 3), (1, 4), (2, 2), (2, 3), (2, 4)])

    def test_one_place(self):
        for place in ((0, 0), (98, 25), (3, 1), (-1, -1), (99, 26)):
            self.assertEqual(between(place, place), [place])

    def test_one_row_and_one_column(self):
        self.assertEqual(between((3, 0), (3, 2)), [(3, 0), (3, 1), (3, 2)])
        self.assertEqual(between((0, 3), (2, 3)), [(0, 3), (1, 3), (2, 3)])

    def test_none_where_first_is_greater(self):
        for first, last in (((2, 0), (1, 0)), ((0, 2), (0, 1)), ((2, 0), (1, 5)), ((0, 2), (5, 1)), ((2, 2), (1, 1))):
            self.assertEqual(between(first, last), [])

    def test_none_of_very_many_rows_or_columns(self):
        self.assertEqual(between((0, 1), (FAR, 0)), [])
        self.assertEqual(between((1, 0), (0, FAR)), [])

    def test_all_places(self):
        told = between((0, 0), (98, 25))
        self.assertEqual(told, [(number // 26, number % 26) for number in range(99 * 26)])

    def test_pairs_that_are_no_places(self):
        self.assertEqual(between((-1, -2), (0, -1)), [(-1, -2), (-1, -1), (0, -2), (0, -1)])
        self.assertEqual(between((98, 25), (99, 26)), [(98, 25), (98, 26), (99, 25), (99, 26)])
        self.assertEqual(between((FAR, -FAR), (FAR + 1, -FAR)), [(FAR, -FAR), (FAR + 1, -FAR)])
        self.assertEqual(between((-1, 0), (-2, 0)), [])

    def test_a_told_list_is_the_askers_own(self):
        for first, last in (((0, 0), (1, 1)), ((1, 0), (0, 0)), ((0, 1), (0, 0))):
            wanted = list(between(first, last))
            told = between(first, last)
            told.append("other")
            told.reverse()
            self.assertEqual(between(first, last), wanted)
        told = between((0, 0), (0, 1))
        between((0, 0), (5, 5))
        self.assertEqual(told, [(0, 0), (0, 1)])

    def test_told_places_are_pairs(self):
        told = between((0, 0), (1, 1))
        self.assertIs(type(told), list)
        self.assertEqual([type(place) for place in told], [tuple] * 4)


class InOrder(unittest.TestCase):
    def test_by_row_and_in_a_row_by_column(self):
        self.assertEqual(in_order([(1, 0), (0, 5), (0, 2), (1, 9), (0, 25)]), [(0, 2), (0, 5), (0, 25), (1, 0), (1, 9)])

    def test_numbers_not_texts_are_compared(self):
        self.assertEqual(in_order([(10, 0), (9, 0), (0, 10), (0, 9)]), [(0, 9), (0, 10), (9, 0), (10, 0)])

    def test_each_once(self):
        self.assertEqual(in_order([(1, 1), (0, 0), (1, 1), (1, 1), (0, 0)]), [(0, 0), (1, 1)])
        self.assertEqual(in_order([(4, 4), (4, 4)]), [(4, 4)])

    def test_an_empty_list(self):
        self.assertEqual(in_order([]), [])

    def test_what_is_in_order_stays_so(self):
        places = between((0, 0), (98, 25))
        self.assertEqual(in_order(places), places)
        self.assertEqual(in_order(list(reversed(places))), places)

    def test_pairs_that_are_no_places(self):
        places = [(99, 26), (-1, 0), (FAR, -FAR), (0, -1), (-1, -1), (-FAR, FAR), (0, -1)]
        self.assertEqual(in_order(places), [(-FAR, FAR), (-1, -1), (-1, 0), (0, -1), (99, 26), (FAR, -FAR)])

    def test_the_list_handed_in_stays(self):
        places = [(2, 2), (0, 1), (2, 2), (0, 0)]
        self.assertEqual(in_order(places), [(0, 0), (0, 1), (2, 2)])
        self.assertEqual(places, [(2, 2), (0, 1), (2, 2), (0, 0)])

    def test_a_new_list_is_told(self):
        for places in ([], [(0, 0)], [(0, 0), (0, 1)], [(1, 0), (0, 1)]):
            kept = list(places)
            told = in_order(places)
            wanted = list(told)
            told.append("other")
            self.assertEqual(places, kept)
            self.assertEqual(in_order(places), wanted)
            later = in_order(places)
            places.append((50, 20))
            self.assertEqual(later, wanted)


if __name__ == "__main__":
    unittest.main()
