"""Points 21 and 23: slate/writing.py."""

import copy
import itertools
import unittest

from making import (FIXED, GONE, SIGNS, WORDS, area, deeper, minus, num, over, pick, ref, sixty_leaves,
                    twelve_deep, two)
from slate.errors import SlateError
from slate.reading import read_formula
from slate.writing import formula_text

STRENGTHS = {"<": 1, "=": 1, "+": 2, "-": 2, "*": 3, "/": 3}


def inner_trees():
    """A tree of each kind, and a two of each sign."""
    return [num(7), ref(1, 1), GONE, pick(num(1), num(2), num(3)), over(num(1), area((0, 0), (1, 1))), minus(num(5))] + [
        two(sign, num(8), num(9)) for sign in SIGNS]


def outer_trees(one, other):
    """A tree of each kind with these two at every place where a part may stand."""
    return [minus(one), pick(one, other, num(1)), pick(num(1), one, other), over(one, other),
            over(area((0, 0), (1, 1)), one, word="MAX")] + [two(sign, one, other) for sign in SIGNS]


class WritingCase(unittest.TestCase):
    def assert_written(self, tree, text):
        kept = copy.deepcopy(tree)
        self.assertEqual(repr(formula_text(tree)), repr(text))
        self.assertEqual(repr(tree), repr(kept))

    def assert_read_back(self, tree):
        # By their written forms: True is no 1 there, and a tuple no list.
        self.assertEqual(repr(read_formula(formula_text(tree))), repr(tree))


class EachKind(WritingCase):
    def test_a_num(self):
        for number in (0, 1, 10, 987654321098, 10 ** 12 - 1):
            self.assert_written(num(number), str(number))

    def test_a_reference_in_each_of_the_four_ways(self):
        self.assert_written(ref(2, 1, (False, False)), "B3")
        self.assert_written(ref(2, 1, (False, True)), "$B3")
        self.assert_written(ref(2, 1, (True, False)), "B$3")
        self.assert_written(ref(2, 1, (True, True)), "$B$3")

    def test_references_at_the_edges(self):
        self.assert_written(ref(0, 0), "A1")
        self.assert_written(ref(98, 0), "A99")
        self.assert_written(ref(0, 25), "Z1")
        self.assert_written(ref(98, 25, (True, True)), "$Z$99")
        self.assert_written(ref(9, 9, (True, False)), "J$10")

    def test_an_area(self):
        self.assert_written(area((0, 0), (2, 1)), "A1:B3")
        self.assert_written(area((4, 4), (4, 4)), "E5:E5")
        for first, last in itertools.product(FIXED, repeat=2):
            one = ("$" if first[1] else "") + "A" + ("$" if first[0] else "") + "1"
            other = ("$" if last[1] else "") + "Z" + ("$" if last[0] else "") + "99"
            self.assert_written(area((0, 0), (98, 25), first, last), one + ":" + other)
            self.assert_written(over(area((0, 0), (98, 25), first, last)), "SUM(" + one + ":" + other + ")")

    def test_gone(self):
        self.assert_written(GONE, "#")
        self.assert_written(over(GONE, two("+", GONE, minus(GONE))), "SUM(#,#+-#)")

    def test_a_minus(self):
        self.assert_written(minus(num(1)), "-1")
        self.assert_written(minus(ref(0, 0)), "-A1")

    def test_a_two_of_each_sign(self):
        for sign in SIGNS:
            self.assert_written(two(sign, num(1), ref(0, 0)), "1" + sign + "A1")

    def test_a_pick(self):
        self.assert_written(pick(num(1), ref(0, 0), GONE), "PICK(1,A1,#)")

    def test_an_over_of_each_word(self):
        for word in WORDS:
            self.assert_written(over(num(1), word=word), word + "(1)")
            self.assert_written(over(num(1), area((0, 0), (1, 1)), ref(0, 2), word=word), word + "(1,A1:B2,C1)")
            self.assert_written(over(*[num(number) for number in range(8)], word=word), word + "(0,1,2,3,4,5,6,7)")

    def test_no_blanks(self):
        for tree in inner_trees():
            for outer in outer_trees(tree, tree):
                self.assertNotIn(" ", formula_text(outer))


class Brackets(WritingCase):
    def test_each_pair_of_signs_on_the_left(self):
        for sign, inner in itertools.product(SIGNS, repeat=2):
            tree = two(sign, two(inner, num(1), num(2)), num(3))
            if STRENGTHS[inner] < STRENGTHS[sign]:
                self.assert_written(tree, "(1" + inner + "2)" + sign + "3")
            else:
                self.assert_written(tree, "1" + inner + "2" + sign + "3")

    def test_each_pair_of_signs_on_the_right(self):
        for sign, inner in itertools.product(SIGNS, repeat=2):
            tree = two(sign, num(1), two(inner, num(2), num(3)))
            if STRENGTHS[inner] <= STRENGTHS[sign]:
                self.assert_written(tree, "1" + sign + "(2" + inner + "3)")
            else:
                self.assert_written(tree, "1" + sign + "2" + inner + "3")

    def test_some_by_hand(self):
        self.assert_written(two("-", two("-", num(1), num(2)), num(3)), "1-2-3")
        self.assert_written(two("-", num(1), two("-", num(2), num(3))), "1-(2-3)")
        self.assert_written(two("+", num(1), two("+", num(2), num(3))), "1+(2+3)")
        self.assert_written(two("=", num(1), two("<", num(2), num(3))), "1=(2<3)")
        self.assert_written(two("*", two("+", num(1), num(2)), two("/", num(3), num(4))), "(1+2)*(3/4)")

    def test_a_minus_in_a_two(self):
        for sign in SIGNS:
            self.assert_written(two(sign, minus(num(1)), minus(num(2))), "-1" + sign + "-2")

    def test_under_a_minus(self):
        for sign in SIGNS:
            self.assert_written(minus(two(sign, num(1), num(2))), "-(1" + sign + "2)")
        self.assert_written(minus(minus(num(1))), "--1")
        self.assert_written(minus(minus(minus(GONE))), "---#")
        self.assert_written(minus(pick(num(1), num(2), num(3))), "-PICK(1,2,3)")
        self.assert_written(minus(over(num(1))), "-SUM(1)")

    def test_none_in_the_parts_of_words(self):
        for tree in inner_trees():
            text = formula_text(tree)
            self.assert_written(pick(tree, tree, tree), "PICK(" + ",".join([text] * 3) + ")")
            for word in WORDS:
                self.assert_written(over(tree, tree, word=word), word + "(" + text + "," + text + ")")

    def test_none_about_words_and_leaves(self):
        for tree in (num(1), ref(0, 0), GONE, pick(num(1), num(2), num(3)), over(num(1))):
            for sign in SIGNS:
                self.assert_written(two(sign, tree, tree), formula_text(tree) + sign + formula_text(tree))

    def test_each_pair_of_brackets_is_due(self):
        # Without the one pair that stands about a part the text reads to another tree.
        seen = 0
        for one, other in itertools.product(inner_trees(), repeat=2):
            for tree in outer_trees(one, other):
                for part in (one, other):
                    text = formula_text(tree)
                    bare = text.replace("(" + formula_text(part) + ")", formula_text(part), 1)
                    if bare != text:
                        seen += 1
                        self.assertNotEqual(self.read_or_none(bare), tree, text)
        self.assertGreater(seen, 100)

    def read_or_none(self, text):
        try:
            return read_formula(text)
        except SlateError:
            return None


class ReadBack(WritingCase):
    def test_each_kind_in_each(self):
        for one, other in itertools.product(inner_trees(), repeat=2):
            for tree in outer_trees(one, other):
                self.assert_read_back(tree)

    def test_each_kind_in_each_in_each(self):
        for one in inner_trees():
            for middle in outer_trees(one, num(6)) + outer_trees(num(6), one):
                for tree in outer_trees(middle, num(4)) + outer_trees(num(4), middle):
                    self.assert_read_back(tree)

    def test_leaves(self):
        for fixed in FIXED:
            for place in ((0, 0), (8, 0), (9, 3), (98, 25)):
                self.assert_read_back(ref(*place, fixed))
        self.assert_read_back(num(10 ** 12 - 1))
        self.assert_read_back(GONE)

    def test_at_the_bounds(self):
        self.assert_read_back(sixty_leaves())
        self.assert_read_back(deeper(num(1), 11))
        self.assert_read_back(twelve_deep(ref(98, 25, (True, True))))
        longest = over(*[area((89, 23), (98, 25), (True, True), (True, True))] * 8, word="COUNT")
        self.assert_read_back(over(*[longest] * 7, num(1), word="COUNT"))

    def test_a_text_that_was_read_is_written_without_what_is_not_due(self):
        for text, wanted in (("((1))", "1"), (" 1 - ( 2 * 3 ) ", "1-2*3"), ("(1-2)-3", "1-2-3"), ("1-(2-3)", "1-(2-3)"),
                             ("SUM( (A1), ($B2) )", "SUM(A1,$B2)"), ("-(A1)*(2)", "-A1*2"), ("-(A1*2)", "-(A1*2)")):
            self.assertEqual(formula_text(read_formula(text)), wanted)


class TheAskersOwn(WritingCase):
    def test_the_tree_handed_in_stays(self):
        for tree in (sixty_leaves(), twelve_deep(GONE), over(over(num(1), area((0, 0), (1, 1))), minus(num(2)))):
            kept = copy.deepcopy(tree)
            told = formula_text(tree)
            self.assertEqual(repr(tree), repr(kept))
            self.assertEqual(formula_text(tree), told)


if __name__ == "__main__":
    unittest.main()
