"""Point 24, the tokens: slate/signs.py."""

import itertools
import re
import unittest

from making import ref
from slate.errors import BadFormula
from slate.signs import tokens

ALL_SIGNS = "+-*/<=(),:#"
PIECE = re.compile(r" *(?:([0-9]+)|([A-Z]{2,})|([$]?[A-Z][$]?[0-9]+)|([-+*/<=(),:#]))")
TOKEN = re.compile(r"0|[1-9][0-9]{0,11}|SUM|COUNT|MAX|PICK|[$]?[A-Z][$]?[1-9][0-9]?|[-+*/<=(),:#]")


def kinds(text):
    return [token[0] for token in tokens(text)]


def first_none(text):
    """Where the first thing that is no token begins, by patterns, or None where all are."""
    at = 0
    while text[at:].strip(" "):
        piece = PIECE.match(text, at)
        if not piece or not TOKEN.fullmatch(piece.group().lstrip(" ")):
            return len(text) - len(text[at:].lstrip(" "))
        at = piece.end()
    return None


class TokensCase(unittest.TestCase):
    def assert_told(self, text, wanted):
        # By their written forms: True is no 1 there, and a tuple no list.
        self.assertEqual(repr(tokens(text)), repr(wanted + [("end", "", len(text))]), text)

    def assert_refused(self, text, at):
        with self.assertRaises(BadFormula, msg=text) as taken:
            tokens(text)
        self.assertEqual(repr(taken.exception.at), repr(at), text)


class EachKind(TokensCase):
    def test_one_of_each(self):
        self.assert_told("12", [("num", 12, 0)])
        self.assert_told("MAX", [("word", "MAX", 0)])
        self.assert_told("$B7", [("ref", ref(6, 1, (False, True)), 0)])
        self.assert_told("<", [("sign", "<", 0)])

    def test_the_end_alone(self):
        self.assert_told("", [])
        self.assert_told(" ", [])
        self.assert_told("     ", [])

    def test_all_signs(self):
        self.assert_told(ALL_SIGNS, [("sign", sign, at) for at, sign in enumerate(ALL_SIGNS)])
        for one, other in itertools.product(ALL_SIGNS, repeat=2):
            self.assert_told(one + other, [("sign", one, 0), ("sign", other, 1)])

    def test_all_together(self):
        self.assert_told("SUM(A1:$B$2,-7)", [
            ("word", "SUM", 0), ("sign", "(", 3), ("ref", ref(0, 0), 4), ("sign", ":", 6),
            ("ref", ref(1, 1, (True, True)), 7), ("sign", ",", 11), ("sign", "-", 12), ("num", 7, 13), ("sign", ")", 14),
        ])

    def test_what_can_not_stand_in_a_formula_is_cut_all_the_same(self):
        self.assert_told(")1 2:", [("sign", ")", 0), ("num", 1, 1), ("num", 2, 3), ("sign", ":", 4)])

    def test_a_told_list_of_tuples(self):
        told = tokens("1+A1")
        self.assertIs(type(told), list)
        self.assertEqual({type(token) for token in told}, {tuple})


class Blanks(TokensCase):
    def test_ahead_behind_and_between(self):
        self.assert_told("  1", [("num", 1, 2)])
        self.assert_told("1  ", [("num", 1, 0)])
        self.assert_told(" 1   +A1 ", [("num", 1, 1), ("sign", "+", 5), ("ref", ref(0, 0), 6)])
        self.assert_told(" SUM ( # ) ", [("word", "SUM", 1), ("sign", "(", 5), ("sign", "#", 7), ("sign", ")", 9)])

    def test_they_part_what_else_were_one(self):
        self.assert_told("1 2", [("num", 1, 0), ("num", 2, 2)])
        self.assert_told("A1 2", [("ref", ref(0, 0), 0), ("num", 2, 3)])
        self.assert_told("SUM MAX", [("word", "SUM", 0), ("word", "MAX", 4)])
        self.assert_refused("A 1", 0)
        self.assert_refused("$ A1", 0)
        self.assert_refused("A$ 1", 0)
        self.assert_refused("SU M", 0)

    def test_tabs_and_line_ends_are_no_blanks(self):
        for sign in "\t\n\r":
            self.assert_refused(sign, 0)
            self.assert_refused("1" + sign, 1)
            self.assert_refused("1 " + sign + "+2", 2)


class Numbers(TokensCase):
    def test_ordinary_ones(self):
        for number in (0, 1, 9, 10, 100, 409, 10 ** 11, 10 ** 12 - 1):
            self.assert_told(str(number), [("num", number, 0)])

    def test_twelve_figures_and_thirteen(self):
        self.assert_told("123456789012", [("num", 123456789012, 0)])
        self.assert_refused("1234567890123", 0)
        self.assert_refused("1000000000000", 0)
        self.assert_refused(" +1234567890123", 2)

    def test_noughts_ahead(self):
        for text in ("00", "007", "01", "0000000000000", "000000000001"):
            self.assert_refused(text, 0)
            self.assert_refused("(" + text, 1)

    def test_nought_with_another_token_behind(self):
        self.assert_told("0 0", [("num", 0, 0), ("num", 0, 2)])
        self.assert_told("0+10", [("num", 0, 0), ("sign", "+", 1), ("num", 10, 2)])

    def test_a_run_ends_at_what_is_no_figure(self):
        self.assert_told("12A1", [("num", 12, 0), ("ref", ref(0, 0), 2)])
        self.assert_told("12$A1", [("num", 12, 0), ("ref", ref(0, 0, (False, True)), 2)])
        self.assert_told("12SUM", [("num", 12, 0), ("word", "SUM", 2)])
        self.assert_told("1-2", [("num", 1, 0), ("sign", "-", 1), ("num", 2, 2)])

    def test_very_many_figures(self):
        self.assert_refused("1" * 10000, 0)
        self.assert_refused("0" * 10000, 0)


class Words(TokensCase):
    def test_each(self):
        for word in ("SUM", "COUNT", "MAX", "PICK"):
            self.assert_told(word, [("word", word, 0)])
            self.assert_told(" " + word + "(", [("word", word, 1), ("sign", "(", 1 + len(word))])

    def test_with_figures_or_a_sign_right_behind(self):
        self.assert_told("SUM1", [("word", "SUM", 0), ("num", 1, 3)])
        self.assert_told("PICK0", [("word", "PICK", 0), ("num", 0, 4)])
        self.assert_told("MAX,", [("word", "MAX", 0), ("sign", ",", 3)])
        self.assert_told("COUNT$A1", [("word", "COUNT", 0), ("ref", ref(0, 0, (False, True)), 5)])
        self.assert_refused("SUM$1", 3)
        self.assert_refused("SUM00", 3)

    def test_runs_that_are_no_words(self):
        for text in ("SUMS", "SU", "AB", "AB1", "ASUM", "SUMSUM", "SUMA1", "MAXMAX1", "COUN", "COUNTS", "PICKS", "MAXA",
                     "MIN", "ZZ", "AA11", "UM", "IF"):
            self.assert_refused(text, 0)
            self.assert_refused("1+" + text, 2)

    def test_small_letters_make_none(self):
        for text in ("sum", "Sum", "pick", "Max"):
            self.assert_refused(text, 0)
        self.assert_refused("SUMs", 3)
        self.assert_refused("SUM.", 3)


class References(TokensCase):
    def test_each_dollar(self):
        self.assert_told("C12", [("ref", ref(11, 2, (False, False)), 0)])
        self.assert_told("$C12", [("ref", ref(11, 2, (False, True)), 0)])
        self.assert_told("C$12", [("ref", ref(11, 2, (True, False)), 0)])
        self.assert_told("$C$12", [("ref", ref(11, 2, (True, True)), 0)])

    def test_every_letter_and_every_row(self):
        for column, letter in enumerate("ABCDEFGHIJKLMNOPQRSTUVWXYZ"):
            for row in range(99):
                self.assert_told(f"{letter}{row + 1}", [("ref", ref(row, column), 0)])

    def test_one_two_and_three_figures(self):
        self.assert_told("A1", [("ref", ref(0, 0), 0)])
        self.assert_told("Z99", [("ref", ref(98, 25), 0)])
        for text in ("A100", "A123", "$A123", "A$123", "$A$123", "Z999", "A1234567890123"):
            self.assert_refused(text, 0)
            self.assert_refused(" 1" + text, 2)

    def test_a_nought_ahead(self):
        for text in ("A0", "A01", "A00", "$A01", "A$01", "$A$01", "A$0", "A001"):
            self.assert_refused(text, 0)

    def test_noughts_further_behind(self):
        self.assert_told("A10", [("ref", ref(9, 0), 0)])
        self.assert_told("$B$90", [("ref", ref(89, 1, (True, True)), 0)])

    def test_nothing_behind_a_letter_or_a_dollar(self):
        for text in ("A", "Z", "$", "$A", "A$", "$A$", "$$", "$$A1", "A$$1", "$1", "$$1", "$AB1", "$SUM", "A$B1", "A$A",
                     "$A$$1", "A+1", "A:B1", "$+", "A(1)", "$A A1"):
            self.assert_refused(text, 0)
            self.assert_refused("A1" + text if text[0] == "$" else "A1 " + text, 2 if text[0] == "$" else 3)

    def test_one_right_behind_another(self):
        self.assert_told("A1B2", [("ref", ref(0, 0), 0), ("ref", ref(1, 1), 2)])
        self.assert_told("A1$B2", [("ref", ref(0, 0), 0), ("ref", ref(1, 1, (False, True)), 2)])
        self.assert_told("A$1$B$2", [("ref", ref(0, 0, (True, False)), 0), ("ref", ref(1, 1, (True, True)), 3)])
        self.assert_told("A1SUM", [("ref", ref(0, 0), 0), ("word", "SUM", 2)])
        self.assert_refused("A1$", 2)
        self.assert_refused("A$1$", 3)

    def test_small_letters_make_none(self):
        for text in ("a1", "$a1", "a$1", "z99"):
            self.assert_refused(text, 0)

    def test_told_fixedness_is_true_or_false(self):
        for text in ("A1", "$A1", "A$1", "$A$1"):
            fixed = tokens(text)[0][1][2]
            self.assertEqual((type(fixed), type(fixed[0]), type(fixed[1])), (tuple, bool, bool))


class NoTokens(TokensCase):
    def test_every_other_sign(self):
        known = set(" $0123456789ABCDEFGHIJKLMNOPQRSTUVWXYZ" + ALL_SIGNS)
        others = [chr(code) for code in range(32, 127) if chr(code) not in known] + ["\t", "\n"]
        self.assertIn("a", others)
        self.assertIn(".", others)
        for sign in others:
            self.assert_refused(sign, 0)
            self.assert_refused("1+" + sign, 2)
            self.assert_refused("A1 " + sign + " B2", 3)
            self.assert_refused("12" + sign, 2)
            self.assert_refused("SUM" + sign, 3)

    def test_the_first_of_several_is_told(self):
        self.assert_refused("1 + a . AB1", 4)
        self.assert_refused("AB1 a", 0)
        self.assert_refused("007 A01", 0)
        self.assert_refused("1;2;3", 1)
        self.assert_refused("A1 A123 $", 3)

    def test_what_stands_badly_ahead_of_it_does_not_count(self):
        self.assert_refused("))1 2 ?", 6)

    def test_all_short_texts_against_patterns(self):
        for many in range(6):
            for signs in itertools.product("AX01$ +?", repeat=many):
                text = "".join(signs)
                at = first_none(text)
                if at is None:
                    self.assertEqual(tokens(text)[-1], ("end", "", len(text)), text)
                else:
                    self.assert_refused(text, at)

    def test_told_at_its_first_sign(self):
        self.assert_refused("+SUMMIT", 1)
        self.assert_refused("+1234567890123", 1)
        self.assert_refused("+$A$", 1)


class ManySigns(TokensCase):
    def test_many_thousand(self):
        self.assertEqual(tokens("(" * 50000)[-2:], [("sign", "(", 49999), ("end", "", 50000)])
        self.assertEqual(tokens("1+" * 20000)[-3:], [("num", 1, 39998), ("sign", "+", 39999), ("end", "", 40000)])
        self.assertEqual(len(tokens("SUM($A$1:" * 5000)), 4 * 5000 + 1)
        self.assert_told(" " * 100000, [])
        self.assert_told(" " * 50000 + "7" + " " * 50000, [("num", 7, 50000)])

    def test_a_late_one_that_is_none(self):
        self.assert_refused("-" * 60000 + "a", 60000)
        self.assert_refused("A" * 100000, 0)
        self.assert_refused("1 " * 30000 + "$", 60000)


class TheAskersOwn(TokensCase):
    def test_a_told_list_that_is_changed_changes_no_later_answer(self):
        for text in ("", "1+$A1", "SUM(A1:B2,#)"):
            wanted = list(tokens(text))
            told = tokens(text)
            told.reverse()
            told.append(("sign", "?", 0))
            self.assertEqual(tokens(text), wanted)
            tokens(text).clear()
            self.assertEqual(tokens(text), wanted)

    def test_a_told_list_stays_whatever_is_asked_later(self):
        told = tokens("1+2")
        tokens("3")
        tokens("")
        self.assertEqual(told, [("num", 1, 0), ("sign", "+", 1), ("num", 2, 2), ("end", "", 3)])

    def test_the_kinds_in_a_row(self):
        self.assertEqual(kinds("MAX(1)A1"), ["word", "sign", "num", "sign", "ref", "end"])


if __name__ == "__main__":
    unittest.main()
