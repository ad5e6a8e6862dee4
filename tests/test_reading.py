"""Points 21 and 24: slate/reading.py."""

import ast
import copy
import itertools
import unittest

from making import GONE, SIGNS, WORDS, area, deeper, lists_in, minus, num, over, pick, ref, two
from slate.errors import BadFormula, TooGreat
from slate.reading import read_formula
from slate.signs import tokens
from slate.trees import deep, leaves

# The grammar of point 24, told as it stands there: ambiguous, but what can stand where is the same.
PARTS = [["part"] + [",", "part"] * more for more in range(8)]
GRAMMAR = {
    "whole": [["formula", "end"]],
    "formula": [["1"], ["A1"], ["#"], ["-", "formula"], ["(", "formula", ")"],
                ["PICK", "(", "formula", ",", "formula", ",", "formula", ")"]]
    + [["formula", sign, "formula"] for sign in ("+", "-", "<")]
    + [["SUM", "("] + row + [")"] for row in PARTS],
    "part": [["formula"], ["A1", ":", "A1"]],
}
PIECES = ("1", "A1", "#", "-", "+", "<", "(", ")", ",", ":", "PICK", "SUM")


def closure(states, sets):
    """Earley's way: all that is begun or done by these states, in the set behind the last token."""
    here = len(sets)
    found = list(dict.fromkeys(states))
    known = set(found)
    for head, row, dot, start in found:
        more = []
        if dot == len(row):
            origin = found if start == here else sets[start]
            more = [(h, r, d + 1, s) for h, r, d, s in origin if d < len(r) and r[d] == head]
        elif row[dot] in GRAMMAR:
            more = [(row[dot], tuple(other), 0, here) for other in GRAMMAR[row[dot]]]
        for state in more:
            if state not in known:
                known.add(state)
                found.append(state)
    return found


def stepped(sets, token):
    states = [(head, row, dot + 1, start) for head, row, dot, start in sets[-1] if dot < len(row) and row[dot] == token]
    return closure(states, sets) if states else []


def opening():
    return [closure([("whole", tuple(GRAMMAR["whole"][0]), 0, 0)], [])]


class ReadingCase(unittest.TestCase):
    def assert_read(self, text, tree):
        # By their written forms: True is no 1 there, and a tuple no list.
        self.assertEqual(repr(read_formula(text)), repr(tree), text)

    def assert_refused(self, text, at):
        with self.assertRaises(BadFormula, msg=text) as taken:
            read_formula(text)
        self.assertEqual(repr(taken.exception.at), repr(at), text)

    def assert_too_great(self, text):
        with self.assertRaises(TooGreat, msg=text[:80]):
            read_formula(text)


class EachKind(ReadingCase):
    def test_leaves(self):
        self.assert_read("0", num(0))
        self.assert_read("999999999999", num(10 ** 12 - 1))
        self.assert_read("B3", ref(2, 1))
        self.assert_read("$B3", ref(2, 1, (False, True)))
        self.assert_read("B$3", ref(2, 1, (True, False)))
        self.assert_read("$Z$99", ref(98, 25, (True, True)))
        self.assert_read("#", GONE)

    def test_a_minus(self):
        self.assert_read("-1", minus(num(1)))
        self.assert_read("-#", minus(GONE))
        self.assert_read("-SUM(A1)", minus(over(ref(0, 0))))

    def test_a_two_of_each_sign(self):
        for sign in SIGNS:
            self.assert_read("1" + sign + "A1", two(sign, num(1), ref(0, 0)))

    def test_a_pick(self):
        self.assert_read("PICK(1,A1,#)", pick(num(1), ref(0, 0), GONE))
        self.assert_read("PICK(-1,1+2,PICK(1,2,3))",
                         pick(minus(num(1)), two("+", num(1), num(2)), pick(num(1), num(2), num(3))))

    def test_an_over_of_each_word(self):
        for word in WORDS:
            self.assert_read(word + "(1)", over(num(1), word=word))
            self.assert_read(word + "(A1,A1:B2,-3)",
                             over(ref(0, 0), area((0, 0), (1, 1)), minus(num(3)), word=word))

    def test_blanks_everywhere(self):
        self.assert_read("  1 +  SUM ( A1 : B2 , 3 )  ", two("+", num(1), over(area((0, 0), (1, 1)), num(3))))
        self.assert_read(" - ( PICK ( 1 , 2 , # ) ) ", minus(pick(num(1), num(2), GONE)))


class Strengths(ReadingCase):
    def test_from_the_left(self):
        self.assert_read("1-2-3", two("-", two("-", num(1), num(2)), num(3)))
        self.assert_read("8/4/2", two("/", two("/", num(8), num(4)), num(2)))
        self.assert_read("1<2=3", two("=", two("<", num(1), num(2)), num(3)))
        self.assert_read("1=2<3", two("<", two("=", num(1), num(2)), num(3)))
        self.assert_read("1+2-3", two("-", two("+", num(1), num(2)), num(3)))
        self.assert_read("1*2/3*4", two("*", two("/", two("*", num(1), num(2)), num(3)), num(4)))

    def test_each_pair_of_signs(self):
        strengths = {"<": 1, "=": 1, "+": 2, "-": 2, "*": 3, "/": 3}
        for one, other in itertools.product(SIGNS, repeat=2):
            if strengths[one] >= strengths[other]:
                wanted = two(other, two(one, num(1), num(2)), num(3))
            else:
                wanted = two(one, num(1), two(other, num(2), num(3)))
            self.assert_read("1" + one + "2" + other + "3", wanted)

    def test_three_strengths_up_and_down(self):
        self.assert_read("1<2+3*4", two("<", num(1), two("+", num(2), two("*", num(3), num(4)))))
        self.assert_read("1*2+3<4", two("<", two("+", two("*", num(1), num(2)), num(3)), num(4)))
        self.assert_read("1+2*3+4", two("+", two("+", num(1), two("*", num(2), num(3))), num(4)))
        self.assert_read("1-2*3", two("-", num(1), two("*", num(2), num(3))))

    def test_a_minus_binds_more_strongly(self):
        for sign in SIGNS:
            self.assert_read("-A1" + sign + "2", two(sign, minus(ref(0, 0)), num(2)))
            self.assert_read("2" + sign + "-3", two(sign, num(2), minus(num(3))))
            self.assert_read("2" + sign + "-3" + sign + "4", two(sign, two(sign, num(2), minus(num(3))), num(4)))
        self.assert_read("1<-2*3", two("<", num(1), two("*", minus(num(2)), num(3))))

    def test_minuses_in_a_row(self):
        self.assert_read("--1", minus(minus(num(1))))
        self.assert_read("1---2", two("-", num(1), minus(minus(num(2)))))
        self.assert_read("-(-1)", minus(minus(num(1))))

    def test_brackets(self):
        self.assert_read("(1)", num(1))
        self.assert_read("((A1))", ref(0, 0))
        self.assert_read("(1+2)*3", two("*", two("+", num(1), num(2)), num(3)))
        self.assert_read("1-(2-3)", two("-", num(1), two("-", num(2), num(3))))
        self.assert_read("-(1+2)", minus(two("+", num(1), num(2))))
        self.assert_read("SUM((A1),(1))", over(ref(0, 0), num(1)))
        self.assert_read("1+SUM(2<3,4)*5", two("+", num(1), two("*", over(two("<", num(2), num(3)), num(4)), num(5))))

    def test_against_pythons_own_reading(self):
        # Python's +, -, * and / and its minus have these very strengths.
        names = {ast.Add: "+", ast.Sub: "-", ast.Mult: "*", ast.Div: "/"}

        def turned(node):
            if isinstance(node, ast.Constant):
                return num(node.value)
            if isinstance(node, ast.UnaryOp):
                return minus(turned(node.operand))
            return two(names[type(node.op)], turned(node.left), turned(node.right))

        for signs in itertools.product(("+", "-", "*", "/", "*-", "--", "-("), repeat=3):
            text = "-1" + signs[0] + "2" + signs[1] + "3" + signs[2] + "4"
            text += ")" * text.count("(")
            self.assert_read(text, turned(ast.parse(text, mode="eval").body))


class PartsOfWords(ReadingCase):
    def test_one_to_eight(self):
        for word in WORDS:
            for many in range(1, 9):
                numbers = [num(number) for number in range(many)]
                text = word + "(" + ",".join(str(number) for number in range(many)) + ")"
                self.assert_read(text, over(*numbers, word=word))

    def test_none_and_nine(self):
        for word in WORDS:
            self.assert_refused(word + "()", len(word) + 1)
            self.assert_refused(word + "(1,2,3,4,5,6,7,8,9)", len(word) + 16)
            self.assert_refused(word + "(1,2,3,4,5,6,7,8,)", len(word) + 16)
            self.assert_refused(word + "(1,2,3,4,5,6,7,A1:B2,9)", len(word) + 20)

    def test_pick_has_just_three(self):
        self.assert_refused("PICK()", 5)
        self.assert_refused("PICK(1)", 6)
        self.assert_refused("PICK(1,2)", 8)
        self.assert_refused("PICK(1,2,3,4)", 10)
        self.assert_refused("PICK(1,2,3,)", 10)

    def test_empty_parts(self):
        self.assert_refused("SUM(,1)", 4)
        self.assert_refused("SUM(1,)", 6)
        self.assert_refused("SUM(1,,2)", 6)
        self.assert_refused("PICK(1,,2)", 7)
        self.assert_refused("PICK(,1,2)", 5)

    def test_a_word_is_followed_by_a_bracket(self):
        self.assert_refused("SUM 1", 4)
        self.assert_refused("SUM1", 3)
        self.assert_refused("SUM+1", 3)
        self.assert_refused("SUM)", 3)
        self.assert_refused("SUM SUM(1)", 4)
        self.assert_refused("PICK,1", 4)
        self.assert_refused("1+MAX-1", 5)
        self.assert_refused("COUNTA1", 0)

    def test_parts_within_parts_are_counted_apart(self):
        self.assert_read("SUM(1,MAX(2,3,4,5,6,7,8,9),PICK(1,2,3),(4),5,6,7,8)",
                         over(num(1), over(*[num(number) for number in range(2, 10)], word="MAX"),
                              pick(num(1), num(2), num(3)), num(4), num(5), num(6), num(7), num(8)))
        self.assert_refused("PICK(SUM(1,2,3),4)", 17)

    def test_commas_elsewhere(self):
        self.assert_refused("1,2", 1)
        self.assert_refused("(1,2)", 2)
        self.assert_refused("SUM((1,2))", 6)
        self.assert_refused(",", 0)


class Areas(ReadingCase):
    def test_where_they_may_stand(self):
        self.assert_read("SUM(A1:B2)", over(area((0, 0), (1, 1))))
        self.assert_read("MAX(1,$A1:B$2)", over(num(1), area((0, 0), (1, 1), (False, True), (True, False)), word="MAX"))
        self.assert_read("COUNT(A1:A1,#,$B$2:$B$2)",
                         over(area((0, 0), (0, 0)), GONE, area((1, 1), (1, 1), (True, True), (True, True)), word="COUNT"))
        self.assert_read("1+SUM(A1:Z99)*2", two("+", num(1), two("*", over(area((0, 0), (98, 25))), num(2))))
        self.assert_read("PICK(SUM(A1:B2),1,2)", pick(over(area((0, 0), (1, 1))), num(1), num(2)))
        self.assert_read("SUM(-MAX(A1:B2),A1)", over(minus(over(area((0, 0), (1, 1)), word="MAX")), ref(0, 0)))
        self.assert_read("SUM((MAX(A1:A2)))", over(over(area((0, 0), (1, 0)), word="MAX")))

    def test_eight(self):
        self.assert_read("SUM(" + ",".join(["A1:B2"] * 8) + ")", over(*[area((0, 0), (1, 1))] * 8))
        self.assert_refused("SUM(" + ",".join(["A1:B2"] * 9) + ")", 51)

    def test_at_the_top(self):
        self.assert_refused("A1:B2", 2)
        self.assert_refused("A1 : B2", 3)

    def test_within_brackets(self):
        self.assert_refused("(A1:B2)", 3)
        self.assert_refused("SUM((A1:B2))", 7)
        self.assert_refused("SUM((A1):B2)", 8)
        self.assert_refused("SUM(A1:(B2))", 7)

    def test_behind_a_sign(self):
        self.assert_refused("SUM(-A1:B2)", 7)
        self.assert_refused("SUM(1+A1:B2)", 8)
        self.assert_refused("SUM(A1*A1:B2)", 9)
        self.assert_refused("SUM(1,2<A1:B2)", 10)

    def test_in_pick(self):
        self.assert_refused("PICK(A1:B2,1,2)", 7)
        self.assert_refused("PICK(1,A1:B2,2)", 9)
        self.assert_refused("PICK(1,2,A1:B2)", 11)
        self.assert_refused("SUM(PICK(A1:B2,1,2))", 11)

    def test_what_stands_behind_one(self):
        for text in ("+", "-", "*", "/", "<", "=", ":", "(", "#", " 1", " A1", "SUM"):
            self.assert_refused("SUM(A1:B2" + text + "1)", 9 + text.count(" "))
        self.assert_refused("SUM(A1:B2:C3)", 9)
        self.assert_refused("SUM(A1:B2 C3)", 10)
        self.assert_refused("SUM(1,A1:B2,A1:B2:B3)", 17)

    def test_a_second_end_that_is_none(self):
        for text in ("1", "#", "-A1", "(A1)", ")", ",", ":", "SUM(A1)"):
            self.assert_refused("SUM(A1:" + text + ")", 7)

    def test_a_first_end_that_is_none(self):
        self.assert_refused("SUM(1:A1)", 5)
        self.assert_refused("SUM(#:A1)", 5)
        self.assert_refused("SUM(:A1)", 4)
        self.assert_refused("SUM(SUM(A1):A1)", 11)

    def test_ends_the_other_way_about(self):
        self.assert_refused("SUM(A2:A1)", 7)
        self.assert_refused("SUM(B1:A1)", 7)
        self.assert_refused("SUM(A2:B1)", 7)
        self.assert_refused("SUM(B1:A2)", 7)
        self.assert_refused("SUM(B2:A1)", 7)
        self.assert_refused("SUM($B$2:$A$1)", 9)
        self.assert_refused("SUM( B2 : A1 )", 10)
        self.assert_refused("SUM(1,A10:A9)", 10)
        self.assert_refused("MAX(Z99:Y99)", 8)

    def test_ends_the_other_way_about_come_ahead_of_what_is_behind(self):
        self.assert_refused("SUM(B2:A1", 7)
        self.assert_refused("SUM(B2:A1:C3)", 7)
        self.assert_refused("SUM(B2:A1?", 7)
        self.assert_refused("SUM(B2:A1))", 7)
        self.assert_refused("1)+SUM(B2:A1)", 1)
        self.assert_refused("?SUM(B2:A1)", 0)


class TooEarly(ReadingCase):
    def test_each_place(self):
        for text in ("", "-", "--", "1+", "1<", "A1*-", "(", "((", "(1", "(1+", "SUM", "SUM(", "SUM(1", "SUM(1,", "SUM(1+",
                     "SUM(A1", "SUM(A1:", "SUM(A1:B2", "SUM(A1:B2,", "SUM(1,2,3,4,5,6,7,8", "PICK", "PICK(", "PICK(1",
                     "PICK(1,", "PICK(1,2", "PICK(1,2,", "PICK(1,2,3", "PICK(1,2,-", "1+SUM", "(SUM(1)", "SUM((1)"):
            self.assert_refused(text, len(text))
            self.assert_refused(text + "   ", len(text) + 3)
            self.assert_refused("  " + text, len(text) + 2)

    def test_each_beginning_of_a_long_one(self):
        text = "-(PICK(-A1<2,SUM(A1:B2,(3+#)),MAX(1,2))*4)"
        read_formula(text)
        for token in tokens(text)[:-1]:
            self.assert_refused(text[:token[2]], token[2])


class WhicheverIsFirst(ReadingCase):
    def test_what_is_no_token(self):
        self.assert_refused("1+?", 2)
        self.assert_refused("a", 0)
        self.assert_refused(" 007", 1)
        self.assert_refused("SUM(A123)", 4)
        self.assert_refused("SUM(A1:B01)", 7)
        self.assert_refused("AB1", 0)
        self.assert_refused("1+\t2", 2)
        self.assert_refused("1\n", 1)
        self.assert_refused("1234567890123", 0)

    def test_what_is_no_token_ahead_of_what_can_not_stand(self):
        self.assert_refused("1+?)", 2)
        self.assert_refused("$ 1 2", 0)
        self.assert_refused("SUM(? 1 2", 4)
        self.assert_refused("SUM?1", 3)

    def test_what_can_not_stand_ahead_of_what_is_no_token(self):
        self.assert_refused("1 2 ?", 2)
        self.assert_refused(")?", 0)
        self.assert_refused("1+*?", 2)
        self.assert_refused("A1:?", 2)
        self.assert_refused("PICK(1)?", 6)
        self.assert_refused("SUM 1 007", 4)
        self.assert_refused("SUM(A1:B2+A01)", 9)

    def test_where_a_formula_is_done_already(self):
        self.assert_refused("1?", 1)
        self.assert_refused("(1)A", 3)
        self.assert_refused("SUM(1)$", 6)


class CanNotStand(ReadingCase):
    def test_a_second_formula(self):
        self.assert_refused("1 2", 2)
        self.assert_refused("A1B2", 2)
        self.assert_refused("A1 A1", 3)
        self.assert_refused("12A1", 2)
        self.assert_refused("# #", 2)
        self.assert_refused("1(2)", 1)
        self.assert_refused("(1)(2)", 3)
        self.assert_refused("SUM(1)SUM(2)", 6)
        self.assert_refused("SUM(1)1", 6)
        self.assert_refused("1 SUM(2)", 2)
        self.assert_refused("SUM(1 2)", 6)

    def test_brackets(self):
        self.assert_refused(")", 0)
        self.assert_refused("()", 1)
        self.assert_refused("1)", 1)
        self.assert_refused("(1))", 3)
        self.assert_refused("SUM(1))", 6)
        self.assert_refused("(SUM(1)))", 8)

    def test_signs(self):
        for sign in "+*/<=,:)":
            self.assert_refused(sign, 0)
            self.assert_refused(sign + "1", 0)
            self.assert_refused("-" + sign, 1)
            self.assert_refused("(" + sign, 1)
            self.assert_refused("SUM(" + sign, 4)
            self.assert_refused("1+" + sign + "1", 2)
        self.assert_refused("=1", 0)
        self.assert_refused("1<=2", 2)

    def test_all_short_rows_of_tokens(self):
        # Every row of tokens that can stand, each with every token behind it that can't.
        self.seen = 0
        self.walk(opening(), "", 6)
        self.assertGreater(self.seen, 10000)

    def walk(self, sets, text, more):
        self.seen += 1
        if stepped(sets, "end"):
            read_formula(text)
        else:
            self.assert_refused(text, len(text))
        for piece in PIECES if more else ():
            further = stepped(sets, piece)
            if further:
                self.walk(sets + [further], text + piece + " ", more - 1)
            else:
                self.assert_refused(text + piece + " 1", len(text))

    def test_longer_rows_of_tokens(self):
        begun = ("PICK ( 1 , A1 , ", "SUM ( 1 , A1 : A1 ", "SUM ( 1 , 1 , 1 , 1 , 1 , 1 , A1 , ", "SUM ( PICK ( 1 , ",
                 "SUM ( ( - A1 ", "PICK ( SUM ( A1 : ", "1 + SUM ( 1 , 1 , 1 , 1 , 1 , 1 , 1 , A1 ")
        for text in begun:
            sets = opening()
            for piece in text.split():
                sets = sets + [stepped(sets, piece)]
            self.seen = 0
            self.walk(sets, text, 3)
            self.assertGreater(self.seen, 1)


class Bounds(ReadingCase):
    def test_signs(self):
        self.assert_read("1" + " " * 5999, num(1))
        self.assert_read(" " * 5999 + "1", num(1))
        self.assert_too_great("1" + " " * 6000)
        self.assert_too_great(" " * 6000 + "1")
        self.assert_too_great("1" + " " * 100000)

    def test_too_many_signs_come_ahead_of_all(self):
        self.assert_too_great("?" * 6001)
        self.assert_too_great(" " * 6001)
        self.assert_too_great(")" * 6001)
        self.assert_refused("?" * 6000, 0)
        self.assert_refused(" " * 6000, 6000)
        self.assert_refused(")" * 6000, 0)

    def test_twelve_and_thirteen_deep(self):
        self.assert_read("-" * 11 + "1", deeper(num(1), 11))
        self.assert_too_great("-" * 12 + "1")
        self.assertEqual(deep(read_formula("SUM(" * 11 + "A1:B2" + ")" * 11)), 12)
        self.assert_too_great("SUM(" * 12 + "A1:B2" + ")" * 12)
        self.assertEqual(deep(read_formula("+".join(["1"] * 12))), 12)
        self.assert_too_great("+".join(["1"] * 13))
        self.assertEqual(deep(read_formula("PICK(1,2," * 11 + "3" + ")" * 11)), 12)
        self.assert_too_great("PICK(1,2," * 12 + "3" + ")" * 12)

    def test_brackets_add_no_depth(self):
        self.assert_read("(" * 2999 + "1" + ")" * 2999, num(1))
        self.assert_read("(-" * 11 + "1" + ")" * 11, deeper(num(1), 11))
        self.assert_too_great("(-" * 12 + "1" + ")" * 12)

    def test_sixty_and_sixty_one_leaves(self):
        eight = "SUM(" + ",".join(["A1:B2"] * 8) + ")"
        four = "SUM(1,#,A1,2)"
        five = "SUM(1,#,A1,2,3)"
        tree = read_formula("MAX(" + ",".join([eight] * 7 + [four]) + ")")
        self.assertEqual((leaves(tree), deep(tree)), (60, 3))
        self.assert_too_great("MAX(" + ",".join([eight] * 7 + [five]) + ")")
        self.assert_too_great("MAX(" + ",".join([eight] * 8) + ")")

    def test_too_great_and_not_to_be_read(self):
        self.assert_refused("-" * 12 + "1)", 13)
        self.assert_refused("-" * 12, 12)
        self.assert_refused("+".join(["1"] * 13) + "?", 25)
        self.assert_refused("+".join(["1"] * 61) + " 1", 122)
        self.assert_refused("SUM(" * 20 + "B1:A1", 83)

    def test_in_one_another_by_the_thousand(self):
        self.assert_too_great("-" * 5999 + "1")
        self.assert_too_great("SUM(" * 1199 + "1" + ")" * 1199)
        self.assert_too_great("PICK(1,2," * 599 + "3" + ")" * 599)
        self.assert_too_great("1+" * 2999 + "1")
        self.assert_too_great("-(" * 1999 + "1" + ")" * 1999)
        self.assert_too_great("1+(" * 1499 + "1" + ")" * 1499)
        self.assert_refused("(" * 6000, 6000)
        self.assert_refused("-" * 6000, 6000)
        self.assert_refused("SUM(" * 1500, 6000)
        self.assert_refused("MAX(" * 1000 + ")", 4000)
        self.assert_refused("(" * 2999 + "1" + ")" * 3000, 5999)
        self.assert_refused("(" * 3000 + "1" + ")" * 2999, 6000)


class TheAskersOwn(ReadingCase):
    def test_a_told_tree_that_is_changed_changes_no_later_answer(self):
        for text in ("SUM(1)", "SUM(A1:B2,MAX(1,2))+MAX(1,2)", "PICK(SUM(1),SUM(1),SUM(1))"):
            wanted = copy.deepcopy(read_formula(text))
            for row in lists_in(read_formula(text)):
                row.append("other")
                row.reverse()
            self.assertEqual(read_formula(text), wanted)

    def test_no_list_stands_twice_in_a_told_tree(self):
        rows = lists_in(read_formula("PICK(SUM(1),SUM(1),SUM(1,SUM(1)))"))
        self.assertEqual(len({id(row) for row in rows}), 4)
        rows[0].append("other")
        self.assertEqual([len(row) for row in rows], [2, 1, 2, 1])

    def test_a_told_tree_stays_whatever_is_asked_later(self):
        told = read_formula("SUM(1,2)")
        read_formula("SUM(3)")
        read_formula("SUM(1,2)")[2].clear()
        self.assertEqual(told, over(num(1), num(2)))

    def test_a_refusal_leaves_nothing_behind(self):
        self.assert_refused("SUM(1,2", 7)
        self.assert_read("SUM(3)", over(num(3)))
        self.assert_too_great("-" * 100 + "1")
        self.assert_read("1", num(1))


if __name__ == "__main__":
    unittest.main()
