"""Points 41 and 42: slate/values.py."""

import itertools
import unittest

from making import SIGNS, WORDS
from slate.values import bounded, gathered, is_trouble, put_together

TROUBLES = ("gone", "nought", "great", "ring")
BOUND = 10 ** 30


class ValuesCase(unittest.TestCase):
    def assert_told(self, told, wanted):
        # By their written forms: True is no 1 there.
        self.assertEqual(repr(told), repr(wanted))


class IsTrouble(ValuesCase):
    def test_each_trouble(self):
        for trouble in TROUBLES:
            self.assert_told(is_trouble(trouble), True)

    def test_what_is_none(self):
        for value in (None, 0, 1, -1, 7, BOUND, -BOUND, BOUND + 1):
            self.assert_told(is_trouble(value), False)


class Bounded(ValuesCase):
    def test_within(self):
        for number in (0, 1, -1, 12, 10 ** 12, BOUND - 1, BOUND, 1 - BOUND, -BOUND):
            self.assert_told(bounded(number), number)

    def test_beyond(self):
        for number in (BOUND + 1, -BOUND - 1, 2 * BOUND, -2 * BOUND, 10 ** 60, -(10 ** 60), 10 ** 5000):
            self.assert_told(bounded(number), "great")


class PutTogether(ValuesCase):
    def test_ordinary_numbers(self):
        for sign, wanted in (("+", 9), ("-", 5), ("*", 14), ("/", 3), ("<", 0), ("=", 0)):
            self.assert_told(put_together(sign, 7, 2), wanted)
        for sign, wanted in (("+", 9), ("-", -5), ("*", 14), ("/", 0), ("<", 1), ("=", 0)):
            self.assert_told(put_together(sign, 2, 7), wanted)
        for sign, wanted in (("+", 8), ("-", 0), ("*", 16), ("/", 1), ("<", 0), ("=", 1)):
            self.assert_told(put_together(sign, 4, 4), wanted)
        for sign, wanted in (("+", -9), ("-", 5), ("*", 14), ("/", 0), ("<", 0), ("=", 0)):
            self.assert_told(put_together(sign, -2, -7), wanted)

    def test_a_trouble_on_one_side(self):
        for sign, trouble in itertools.product(SIGNS, TROUBLES):
            for number in (0, 1, -5, BOUND):
                self.assert_told(put_together(sign, trouble, number), trouble)
                self.assert_told(put_together(sign, number, trouble), trouble)

    def test_a_trouble_on_both_sides(self):
        for sign, one, other in itertools.product(SIGNS, TROUBLES, TROUBLES):
            self.assert_told(put_together(sign, one, other), one)

    def test_division_is_rounded_down(self):
        for one, other, wanted in (
                (7, 2, 3), (-7, 2, -4), (7, -2, -4), (-7, -2, 3), (6, 3, 2), (-6, 3, -2), (6, -3, -2), (-6, -3, 2),
                (1, 2, 0), (-1, 2, -1), (1, -2, -1), (-1, -2, 0), (0, 5, 0), (0, -5, 0), (9, 1, 9), (-9, 1, -9),
                (9, -1, -9), (-9, -1, 9), (BOUND, 1, BOUND), (BOUND, -1, -BOUND), (-BOUND, -1, BOUND),
                (BOUND, 7, 142857142857142857142857142857), (-BOUND, 7, -142857142857142857142857142858),
                (BOUND - 1, BOUND, 0), (1 - BOUND, BOUND, -1), (10 ** 20 + 1, 10 ** 10, 10 ** 10)):
            self.assert_told(put_together("/", one, other), wanted)

    def test_division_against_what_rounding_down_means(self):
        for one in range(-12, 13):
            for other in range(-5, 6):
                if other != 0:
                    told = put_together("/", one, other)
                    left = one - told * other
                    self.assertTrue(0 <= left < other or other < left <= 0, (one, other))

    def test_division_by_nought(self):
        for number in (0, 1, -1, 9, BOUND, -BOUND):
            self.assert_told(put_together("/", number, 0), "nought")
        for trouble in TROUBLES:
            self.assert_told(put_together("/", trouble, 0), trouble)
            self.assert_told(put_together("/", 0, trouble), trouble)

    def test_nought_elsewhere(self):
        for sign, wanted in (("+", 5), ("-", 5), ("*", 0), ("<", 0), ("=", 0)):
            self.assert_told(put_together(sign, 5, 0), wanted)
        for sign, wanted in (("+", 0), ("-", 0), ("*", 0), ("<", 0), ("=", 1)):
            self.assert_told(put_together(sign, 0, 0), wanted)

    def test_less_and_equal(self):
        numbers = (-BOUND, -2, -1, 0, 1, 2, BOUND - 1, BOUND)
        for at, one in enumerate(numbers):
            for place, other in enumerate(numbers):
                self.assert_told(put_together("<", one, other), int(at < place))
                self.assert_told(put_together("=", one, other), int(at == place))

    def test_results_at_the_bound_and_beyond(self):
        for sign, one, other, wanted in (
                ("+", BOUND - 1, 1, BOUND), ("+", BOUND, 1, "great"), ("+", 1 - BOUND, -1, -BOUND),
                ("+", -BOUND, -1, "great"), ("+", BOUND, -BOUND, 0), ("+", BOUND, BOUND, "great"),
                ("-", BOUND - 1, -1, BOUND), ("-", BOUND, -1, "great"), ("-", 1 - BOUND, 1, -BOUND),
                ("-", -BOUND, 1, "great"), ("-", 0, BOUND, -BOUND), ("-", -BOUND, BOUND, "great"),
                ("*", 10 ** 15, 10 ** 15, BOUND), ("*", 10 ** 15, -(10 ** 15), -BOUND), ("*", -BOUND, -1, BOUND),
                ("*", 10 ** 15 + 1, 10 ** 15, "great"), ("*", 10 ** 15 + 1, -(10 ** 15), "great"),
                # 10 ** 30 + 1 is 61 times this number.
                ("*", 61, 16393442622950819672131147541, "great"), ("*", -61, 16393442622950819672131147541, "great"),
                ("*", BOUND, BOUND, "great"), ("*", -BOUND, BOUND, "great"), ("*", BOUND, 0, 0)):
            self.assert_told(put_together(sign, one, other), wanted)
        self.assertEqual(61 * 16393442622950819672131147541, BOUND + 1)


class Gathered(ValuesCase):
    def assert_gathered(self, values, in_all, many, greatest):
        for word, wanted in (("SUM", in_all), ("COUNT", many), ("MAX", greatest)):
            handed = list(values)
            self.assert_told(gathered(word, handed), wanted)
            self.assertEqual(handed, values)

    def test_numbers_alone(self):
        self.assert_gathered([5], 5, 1, 5)
        self.assert_gathered([1, 2, 3], 6, 3, 3)
        self.assert_gathered([3, 9, -4, 0], 8, 4, 9)
        self.assert_gathered([2, 2, 2], 6, 3, 2)
        self.assert_gathered([0], 0, 1, 0)

    def test_none_among_them(self):
        self.assert_gathered([None, 4, None, None, -6, None], -2, 2, 4)
        self.assert_gathered([0, None], 0, 1, 0)
        self.assert_gathered([None, 7], 7, 1, 7)

    def test_none_alone(self):
        self.assert_gathered([None], 0, 0, 0)
        self.assert_gathered([None] * 50, 0, 0, 0)
        self.assert_gathered([], 0, 0, 0)

    def test_numbers_below_nought_alone(self):
        self.assert_gathered([-5, -2, -9], -16, 3, -2)
        self.assert_gathered([None, -5], -5, 1, -5)
        self.assert_gathered([-BOUND], -BOUND, 1, -BOUND)

    def test_a_trouble_at_any_place(self):
        for trouble in TROUBLES:
            for at in range(4):
                values = [1, None, -2]
                values.insert(at, trouble)
                self.assert_gathered(values, trouble, trouble, trouble)
            self.assert_gathered([trouble], trouble, trouble, trouble)
            self.assert_gathered([None, None, trouble], trouble, trouble, trouble)

    def test_the_first_of_several_troubles(self):
        for row in itertools.permutations(TROUBLES):
            self.assert_gathered(list(row), row[0], row[0], row[0])
            self.assert_gathered([None, 5] + list(row) + [2], row[0], row[0], row[0])
            self.assert_gathered([row[1], 1, row[0]], row[1], row[1], row[1])

    def test_a_trouble_behind_numbers_beyond_the_bound_together(self):
        for trouble in ("gone", "nought", "ring"):
            self.assert_gathered([BOUND, BOUND, trouble], trouble, trouble, trouble)

    def test_a_sum_at_the_bound(self):
        self.assert_gathered([BOUND - 1, 1], BOUND, 2, BOUND - 1)
        self.assert_gathered([1 - BOUND, -1], -BOUND, 2, -1)
        self.assert_gathered([BOUND, 1], "great", 2, BOUND)
        self.assert_gathered([-BOUND, -1], "great", 2, -1)

    def test_a_sum_that_goes_beyond_and_comes_back(self):
        self.assert_gathered([BOUND, BOUND, -BOUND], BOUND, 3, BOUND)
        self.assert_gathered([BOUND, None, 1, -1], BOUND, 3, BOUND)
        self.assert_gathered([-BOUND, -5, 5], -BOUND, 3, 5)

    def test_a_sum_that_stays_beyond(self):
        self.assert_gathered([BOUND, BOUND, 1 - BOUND], "great", 3, BOUND)
        self.assert_gathered([-BOUND, -BOUND, BOUND - 1], "great", 3, BOUND - 1)
        self.assert_gathered([BOUND] * 8, "great", 8, BOUND)

    def test_many_values(self):
        self.assert_gathered(list(range(3000)), 3000 * 2999 // 2, 3000, 2999)

    def test_the_list_handed_in_is_not_kept(self):
        for word in WORDS:
            handed = [1, None, 3]
            told = gathered(word, handed)
            handed.append("ring")
            self.assert_told(gathered(word, [1, None, 3]), told)
            self.assert_told(gathered(word, handed), "ring")


if __name__ == "__main__":
    unittest.main()
