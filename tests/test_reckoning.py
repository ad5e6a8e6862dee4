"""Point 42: slate/reckoning.py."""

import copy
import itertools
import unittest

from making import (FIXED, GONE, SIGNS, WORDS, area, deeper, minus, num, over, pick, ref, sixty_leaves, twelve_deep,
                    two)
from slate.places import between
from slate.reading import read_formula
from slate.reckoning import reckoned

TROUBLES = ("gone", "nought", "great", "ring")
BOUND = 10 ** 30
TEN = {(0, 0): 10}
# A1 has 10, B1 has -3, C1 is told to be empty, D1 is not told; A2 to D2 show the troubles.
LOOK = {(0, 0): 10, (0, 1): -3, (0, 2): None, (1, 0): "gone", (1, 1): "nought", (1, 2): "great", (1, 3): "ring",
        (2, 0): BOUND, (2, 1): -BOUND, (2, 2): 0}


class ReckoningCase(unittest.TestCase):
    def assert_reckoned(self, tree, look, wanted):
        # By their written forms: True is no 1 there. Asked twice: the same comes again, and nothing is changed.
        kept = copy.deepcopy((tree, look))
        for time in range(2):
            self.assertEqual(repr(reckoned(tree, look)), repr(wanted))
            self.assertEqual(repr((tree, look)), repr(kept))

    def assert_text(self, text, wanted):
        self.assert_reckoned(read_formula(text), LOOK, wanted)


class Leaves(ReckoningCase):
    def test_a_num(self):
        for number in (0, 1, 42, 10 ** 12 - 1):
            self.assert_reckoned(num(number), {}, number)

    def test_gone(self):
        self.assert_reckoned(GONE, {}, "gone")
        self.assert_reckoned(GONE, LOOK, "gone")

    def test_a_reference(self):
        for fixed in FIXED:
            self.assert_reckoned(ref(0, 0, fixed), LOOK, 10)
            self.assert_reckoned(ref(0, 1, fixed), LOOK, -3)
            self.assert_reckoned(ref(2, 0, fixed), LOOK, BOUND)
            self.assert_reckoned(ref(2, 1, fixed), LOOK, -BOUND)

    def test_a_reference_to_nothing(self):
        self.assert_reckoned(ref(0, 2), LOOK, 0)
        self.assert_reckoned(ref(0, 3), LOOK, 0)
        self.assert_reckoned(ref(98, 25), {}, 0)

    def test_a_reference_to_a_trouble(self):
        for trouble in TROUBLES:
            self.assert_reckoned(ref(4, 4), {(4, 4): trouble}, trouble)

    def test_row_and_column_are_told_apart(self):
        self.assert_reckoned(ref(1, 2), {(1, 2): 5, (2, 1): 6}, 5)


class Minus(ReckoningCase):
    def test_of_numbers(self):
        self.assert_text("-5", -5)
        self.assert_text("-B1", 3)
        self.assert_text("-0", 0)
        self.assert_text("--A1", 10)
        self.assert_text("-C1", 0)
        self.assert_text("-D1", 0)

    def test_of_a_trouble(self):
        for trouble in TROUBLES:
            self.assert_reckoned(minus(ref(0, 0)), {(0, 0): trouble}, trouble)
            self.assert_reckoned(minus(minus(ref(0, 0))), {(0, 0): trouble}, trouble)
        self.assert_text("-#", "gone")

    def test_of_the_bound(self):
        self.assert_text("-A3", -BOUND)
        self.assert_text("-B3", BOUND)


class Two(ReckoningCase):
    def test_each_sign(self):
        for text, wanted in (("A1+B1", 7), ("A1-B1", 13), ("A1*B1", -30), ("A1/B1", -4), ("A1<B1", 0), ("A1=B1", 0),
                             ("B1<A1", 1), ("A1=10", 1), ("B1/A1", -1), ("7/2", 3), ("-7/-2", 3), ("C1=D1", 1)):
            self.assert_text(text, wanted)

    def test_nothing_is_nought(self):
        for sign in ("+", "-", "*", "<", "="):
            self.assert_reckoned(two(sign, ref(0, 2), num(1)), LOOK, {"+": 1, "-": -1, "*": 0, "<": 1, "=": 0}[sign])
        self.assert_text("1/C1", "nought")
        self.assert_text("1/D1", "nought")
        self.assert_text("C1/1", 0)

    def test_the_order_of_its_parts(self):
        for sign, one, other in itertools.product(SIGNS, TROUBLES, TROUBLES):
            look = {(0, 0): one, (0, 1): other}
            self.assert_reckoned(two(sign, ref(0, 0), ref(0, 1)), look, one)
            self.assert_reckoned(two(sign, num(1), ref(0, 1)), look, other)
            self.assert_reckoned(two(sign, ref(0, 0), num(0)), look, one)

    def test_troubles_that_arise_within(self):
        self.assert_text("1/0+#", "nought")
        self.assert_text("#+1/0", "gone")
        self.assert_text("A3*A3+1/0", "great")
        self.assert_text("1/0-A3*A3", "nought")
        self.assert_text("#/0", "gone")
        self.assert_text("1/0/0", "nought")
        self.assert_text("0/(1-1)", "nought")

    def test_from_the_left(self):
        self.assert_text("1-2-3", -4)
        self.assert_text("100/7/2", 7)
        self.assert_text("1<2=1", 1)
        self.assert_text("2+3*4", 14)


class Pick(ReckoningCase):
    def test_nought_takes_the_third(self):
        self.assert_text("PICK(0,1,2)", 2)
        self.assert_text("PICK(C1,1,2)", 2)
        self.assert_text("PICK(D1,1,2)", 2)
        self.assert_text("PICK(C3,A1,B1)", -3)
        self.assert_text("PICK(2<1,A1,B1)", -3)

    def test_other_numbers_take_the_second(self):
        for text in ("1", "2", "-1", "A3", "B1", "1<2"):
            self.assert_text("PICK(" + text + ",A1,B1)", 10)

    def test_a_trouble_as_its_first_part(self):
        for trouble in TROUBLES:
            self.assert_reckoned(pick(ref(0, 0), num(1), num(2)), {(0, 0): trouble}, trouble)
            self.assert_reckoned(pick(ref(0, 0), GONE, ref(0, 1)), {(0, 0): trouble, (0, 1): "ring"}, trouble)

    def test_the_other_one_may_hold_a_trouble(self):
        for text in ("#", "1/0", "A2", "B2", "C2", "D2", "A3*A3", "SUM(A1:D2)"):
            self.assert_text("PICK(1,7," + text + ")", 7)
            self.assert_text("PICK(0," + text + ",7)", 7)

    def test_the_one_taken_may_be_a_trouble(self):
        self.assert_text("PICK(1,#,7)", "gone")
        self.assert_text("PICK(0,7,1/0)", "nought")
        self.assert_text("PICK(1,D2,7)", "ring")

    def test_the_one_taken_may_be_nothing(self):
        self.assert_text("PICK(1,C1,7)", 0)
        self.assert_text("PICK(0,7,D1)", 0)


class Over(ReckoningCase):
    def test_numbers_and_trees(self):
        self.assert_text("SUM(1,2,3)", 6)
        self.assert_text("COUNT(1,2,3)", 3)
        self.assert_text("MAX(1,3,2)", 3)
        self.assert_text("SUM(A1,-B1,2*3,PICK(1,2,3),MAX(4,5))", 26)
        self.assert_text("MAX(-5,-2,-9)", -2)

    def test_a_reference_that_is_itself_a_part(self):
        self.assert_text("COUNT(C1)", 0)
        self.assert_text("COUNT(D1,C1,A1)", 1)
        self.assert_text("MAX(C1,-5)", -5)
        self.assert_text("MAX(C1)", 0)
        self.assert_text("SUM(C1,D1)", 0)
        self.assert_text("COUNT(C3)", 1)

    def test_the_same_reference_within_a_tree(self):
        self.assert_text("COUNT(-C1)", 1)
        self.assert_text("COUNT(C1+0,D1*1,-A1)", 3)
        self.assert_text("MAX(-C1,-5)", 0)
        self.assert_text("MAX(C1+0,-5)", 0)
        self.assert_text("COUNT(PICK(1,C1,2))", 1)
        self.assert_text("COUNT(SUM(C1))", 1)
        self.assert_text("COUNT(MAX(C1),COUNT(D1),D1)", 2)

    def test_areas(self):
        self.assert_text("SUM(A1:D1)", 7)
        self.assert_text("COUNT(A1:D1)", 2)
        self.assert_text("MAX(A1:D1)", 10)
        self.assert_text("MAX(B1:D1)", -3)
        self.assert_text("COUNT(C1:D1)", 0)
        self.assert_text("MAX(C1:D1)", 0)
        self.assert_text("SUM(A1:A1,A1,A1:B1)", 27)
        self.assert_text("COUNT(A1:B1,C3,A3:C3)", 6)

    def test_an_area_looks_between_its_ends_alone(self):
        look = {place: 1 for place in between((0, 0), (9, 9))}
        look[(3, 3)] = 100
        for first, last in (((0, 0), (2, 9)), ((0, 0), (9, 2)), ((4, 0), (9, 9)), ((0, 4), (9, 9)), ((3, 4), (3, 9))):
            self.assert_reckoned(over(area(first, last), word="MAX"), look, 1)
            self.assert_reckoned(over(area(first, last), word="COUNT"), look, len(between(first, last)))
        self.assert_reckoned(over(area((3, 3), (3, 3))), look, 100)

    def test_troubles_of_an_area_in_order(self):
        for word in WORDS:
            # By row, then by column: B1 comes ahead of A2.
            look = {(0, 0): 1, (0, 1): "ring", (1, 0): "nought", (1, 1): None}
            self.assert_reckoned(over(area((0, 0), (1, 1)), word=word), look, "ring")
            look = {(1, 1): "great", (1, 0): "gone", (0, 0): None}
            self.assert_reckoned(over(area((0, 0), (1, 1)), word=word), look, "gone")
            look = {(2, 5): "gone", (5, 2): "ring", (3, 3): "great"}
            self.assert_reckoned(over(area((0, 0), (9, 9)), word=word), look, "gone")
            self.assert_reckoned(over(area((3, 0), (9, 9)), word=word), look, "great")

    def test_troubles_from_the_left(self):
        for word in WORDS:
            look = {(0, 0): "ring", (0, 1): "great", (5, 5): 3}
            self.assert_reckoned(over(ref(0, 1), ref(0, 0), word=word), look, "great")
            self.assert_reckoned(over(ref(5, 5), area((0, 0), (0, 1)), ref(0, 1), word=word), look, "ring")
            self.assert_reckoned(over(GONE, ref(0, 0), word=word), look, "gone")
            self.assert_reckoned(over(ref(0, 0), GONE, word=word), look, "ring")
            self.assert_reckoned(over(ref(9, 9), two("/", num(1), num(0)), ref(0, 0), word=word), look, "nought")
            self.assert_reckoned(over(minus(ref(0, 1)), ref(0, 0), word=word), look, "great")

    def test_a_trouble_behind_numbers_beyond_the_bound_together(self):
        look = {(0, 0): BOUND, (0, 1): "nought"}
        self.assert_reckoned(over(ref(0, 0), ref(0, 0), ref(0, 1)), look, "nought")

    def test_the_bound_is_looked_at_behind_the_last(self):
        self.assert_text("SUM(A3,A3,B3)", BOUND)
        self.assert_text("SUM(A3,1,-1)", BOUND)
        self.assert_text("SUM(A3,1)", "great")
        self.assert_text("SUM(B3,-1)", "great")
        self.assert_text("SUM(A3,A3,A1)", "great")
        self.assert_text("MAX(A3,A3)", BOUND)
        self.assert_text("COUNT(A3,A3)", 2)


class Great(ReckoningCase):
    def test_at_the_bound(self):
        self.assert_text("A3+0", BOUND)
        self.assert_text("A3+1", "great")
        self.assert_text("B3-0", -BOUND)
        self.assert_text("B3-1", "great")
        self.assert_text("A3*1", BOUND)
        self.assert_text("A3*2", "great")
        self.assert_text("B3*2", "great")
        self.assert_text("A3/-1", -BOUND)

    def test_within_a_tree_where_it_would_come_back(self):
        self.assert_text("A3+1-1", "great")
        self.assert_text("A3*2/2", "great")
        self.assert_text("A3*A3*0", "great")
        self.assert_text("A3+1<5", "great")
        self.assert_text("A3+1=A3+1", "great")
        self.assert_text("-(A3+1)", "great")
        self.assert_text("SUM(A3+1,-5)", "great")
        self.assert_text("SUM(SUM(A3,A3),B3)", "great")
        self.assert_text("COUNT(A3+1)", "great")
        self.assert_text("MAX(1,A3*2)", "great")
        self.assert_text("PICK(A3+1,1,2)", "great")

    def test_a_product_of_many(self):
        tree = num(10 ** 12 - 1)
        for time in range(2):
            tree = two("*", tree, tree)
        self.assert_reckoned(tree, {}, "great")
        self.assert_reckoned(two("*", num(10 ** 11), two("*", num(10 ** 11), num(10 ** 8))), {}, BOUND)


class Bounds(ReckoningCase):
    def test_twelve_deep(self):
        self.assert_reckoned(deeper(ref(0, 0), 11), TEN, -10)
        self.assert_reckoned(deeper(ref(0, 0), 10), TEN, 10)
        self.assert_reckoned(deeper(GONE, 11), TEN, "gone")
        self.assert_reckoned(twelve_deep(ref(0, 0)), TEN, 1 - (1 - (1 - 10)))
        self.assert_reckoned(twelve_deep(ref(5, 5)), TEN, 1 - (1 - (1 - 0)))
        self.assert_reckoned(twelve_deep(GONE), TEN, "gone")

    def test_sixty_leaves(self):
        look = {place: place[0] * 10 + place[1] for place in between((0, 0), (7, 7))}
        self.assert_reckoned(sixty_leaves(), look, 8)
        eights = [over(*[ref(row, column) for column in range(8)]) for row in range(7)]
        fours = over(*[ref(7, column) for column in range(4)])
        in_all = sum(look[place] for place in between((0, 0), (6, 7)) + between((7, 0), (7, 3)))
        self.assert_reckoned(over(*eights, fours), look, in_all)

    def test_sixty_great_areas(self):
        look = {place: 1 for place in between((0, 0), (98, 25))}
        eights = [over(*[area((0, 0), (98, 25))] * 8) for time in range(7)]
        self.assertEqual(reckoned(over(*eights, *[num(0)]), look), 56 * 99 * 26)

    def test_somewhat_beyond(self):
        self.assert_reckoned(deeper(num(1), 40), {}, 1)
        self.assert_reckoned(num(BOUND + 1), {}, "great")
        self.assert_reckoned(ref(0, 0), {(0, 0): BOUND + 1}, "great")
        self.assert_reckoned(ref(0, 0), {(0, 0): -BOUND - 1}, "great")


class OnWhatAValueHangs(ReckoningCase):
    def test_other_places_change_nothing(self):
        tree = read_formula("SUM(A1:B2,C3)+PICK(D4,E5,F6)")
        look = {(0, 0): 3, (2, 2): 4, (3, 3): 1, (4, 4): 9}
        self.assert_reckoned(tree, look, 16)
        for place in ((0, 2), (2, 0), (9, 9), (98, 25), (6, 6)):
            for value in (1, None) + TROUBLES:
                self.assert_reckoned(tree, {**look, place: value}, 16)

    def test_nothing_is_kept_between_two_askings(self):
        tree = over(ref(0, 0), num(1))
        look = {(0, 0): 1}
        self.assertEqual(reckoned(tree, look), 2)
        look[(0, 0)] = 5
        self.assertEqual(reckoned(tree, look), 6)
        look.clear()
        self.assertEqual(reckoned(tree, look), 1)
        self.assertEqual(look, {})


if __name__ == "__main__":
    unittest.main()
