"""Roundings: each rule, at a multiple, below, at and above the half, by round and by cash, by neither, and the call."""

import random
import unittest
from fractions import Fraction

from tests.helper import GREAT, ROUND, ask, ask_book, bill, model_round, price, taxes

# What 2, 2 1/4, 2 1/2, 2 3/4, 3, 3 1/4, 3 1/2, 3 3/4 units become, in units.
QUARTERS = range(8, 16)
DOWN = [2, 2, 2, 2, 3, 3, 3, 3]
UP = [2, 3, 3, 3, 3, 4, 4, 4]
HALF_UP = [2, 2, 3, 3, 3, 3, 4, 4]
HALF_DOWN = [2, 2, 2, 3, 3, 3, 3, 4]
HALF_EVEN = [2, 2, 2, 3, 3, 3, 4, 4]
HALF_ODD = [2, 2, 3, 3, 3, 3, 3, 4]
RULES = [DOWN, UP, DOWN, UP, HALF_UP, HALF_DOWN, HALF_DOWN, HALF_UP, HALF_EVEN, HALF_ODD]


def paid(text):
    return ask_book(text, price([1], []))[0][1]


def one_tax(text):
    return ask_book(text, taxes([1], []))[0][1]


class Cash(unittest.TestCase):
    def test_each_rule(self):
        for rule, want in enumerate(RULES):
            for unit in (4, 20, 100, 10000):
                found = [paid(f"item a {unit * quarter // 4}\ncash {rule} {unit}") for quarter in QUARTERS]
                self.assertEqual(found, [unit * times for times in want], (rule, unit))

    def test_next_to_the_half(self):
        for rule, want in enumerate(RULES):
            around = [paid(f"item a {amount}\ncash {rule} 100") for amount in (249, 251, 201, 299, 349, 351)]
            self.assertEqual(around, [100 * want[place] for place in (1, 3, 1, 3, 5, 7)], rule)

    def test_no_half_with_an_odd_unit(self):
        for rule in (4, 5, 6, 7, 8, 9):
            self.assertEqual([paid(f"item a {amount}\ncash {rule} 5") for amount in range(10, 16)],
                             [10, 10, 10, 15, 15, 15], rule)

    def test_from_0_on(self):
        for rule, want in enumerate([0, 10, 0, 10, 10, 0, 0, 10, 0, 10]):
            self.assertEqual([paid(f"item a {amount}\ncash {rule} 10") for amount in (0, 5, 10)], [0, want, 10], rule)

    def test_a_unit_of_1_leaves_what_is_due(self):
        for rule in range(10):
            self.assertEqual(paid(f"item a 1237\ncash {rule} 1"), 1237)

    def test_without_cash(self):
        self.assertEqual(paid("item a 1237"), 1237)
        self.assertEqual(paid("item a 1237\nround 1 100"), 1237)


class Percents(unittest.TestCase):
    def test_taxes_on(self):
        for rule, want in enumerate(RULES):
            for unit in (1, 3, 100):
                found = [one_tax(f"tax t 2500 on\nitem a {unit * quarter} t\nround {rule} {unit}")
                         for quarter in QUARTERS]
                self.assertEqual(found, [unit * times for times in want], (rule, unit))

    def test_taxes_in(self):
        # A rate of 10000 is a half of the amount, which holds it.
        for rule, want in enumerate(RULES):
            for unit in (2, 50):
                found = [one_tax(f"tax t 10000 in\nitem a {unit * quarter // 2} t\nround {rule} {unit}")
                         for quarter in QUARTERS]
                self.assertEqual(found, [unit * times for times in want], (rule, unit))

    def test_coupons(self):
        for rule, want in enumerate(RULES):
            for unit in (1, 7, 100):
                for quarter, times in zip(QUARTERS, want):
                    text = f"item a {unit * quarter}\ncoupon c off 2500\nround {rule} {unit}"
                    found = ask_book(text, bill([1], [1]))[0]
                    self.assertEqual(found, [0, 1, unit * quarter - unit * times], (rule, unit, quarter))

    def test_without_round_the_half_goes_up(self):
        found = [one_tax(f"tax t 2500 on\nitem a {quarter} t\ncash 0 100") for quarter in QUARTERS]
        self.assertEqual(found, HALF_UP)
        found = [ask_book(f"item a {quarter}\ncoupon c off 2500", bill([1], [1]))[0][2] for quarter in QUARTERS]
        self.assertEqual(found, [quarter - times for quarter, times in zip(QUARTERS, HALF_UP)])

    def test_less_is_not_rounded(self):
        self.assertEqual(ask_book("item a 1000\ncoupon c less 33\nround 1 100", bill([1], [1])), [[0, 1, 967]])
        self.assertEqual(ask_book("item a 1000\ncoupon c off 5000 cap 33\nround 1 100", bill([1], [1])), [[0, 1, 967]])

    def test_what_pieces_cost_is_not_rounded(self):
        self.assertEqual(ask_book("item a 7\nround 1 100", bill([3], [])), [[0, 1, 21]])


def rounded(rule, unit, n, d):
    answer = ask([ROUND, rule, unit, n, d])[0]
    if answer[0] != 0 or len(answer) != 2:
        raise AssertionError(answer)
    return answer[1]


class Round(unittest.TestCase):
    def test_each_rule(self):
        for rule, want in enumerate(RULES):
            for unit in (1, 2, 3, 100, 10000):
                for d in (4, 8, 1000000):
                    found = [rounded(rule, unit, unit * quarter * d // 4, d) for quarter in QUARTERS]
                    self.assertEqual(found, [unit * times for times in want], (rule, unit, d))

    def test_whole_numbers_stay_by_a_unit_of_1(self):
        for rule in range(10):
            self.assertEqual([rounded(rule, 1, n, 1) for n in (0, 1, 2, 7)], [0, 1, 2, 7])
            self.assertEqual(rounded(rule, 1, 21, 7), 3)

    def test_next_to_the_half(self):
        for rule, want in enumerate(RULES):
            found = [rounded(rule, 10, n, 100) for n in (2499, 2500, 2501, 3499, 3500, 3501)]
            self.assertEqual(found, [10 * want[place] for place in (1, 2, 3, 5, 6, 7)], rule)

    def test_thirds_have_no_half(self):
        for rule in (4, 5, 6, 7, 8, 9):
            self.assertEqual([rounded(rule, 1, n, 3) for n in range(7)], [0, 0, 1, 1, 1, 2, 2], rule)
            self.assertEqual([rounded(rule, 5, n, 1) for n in range(6)], [0, 0, 0, 5, 5, 5], rule)

    def test_below_the_first_unit(self):
        for rule, want in enumerate([0, 10, 0, 10, 10, 0, 0, 10, 0, 10]):
            self.assertEqual([rounded(rule, 10, n, 2) for n in (0, 10, 20)], [0, want, 10], rule)

    def test_both_edges_of_each_range(self):
        most = 1000000000000
        for rule in (0, 9):
            for unit in (1, 10000):
                for n in (0, most):
                    for d in (1, 1000000):
                        want = model_round((rule, unit), Fraction(n, d))
                        self.assertEqual(rounded(rule, unit, n, d), want)
        self.assertEqual(rounded(4, 1, most, 1), most)
        self.assertEqual(rounded(4, 10000, most, 1000000), 1000000)

    def test_against_the_model(self):
        chance = random.Random(50)
        for turn in range(3000):
            rule, unit = chance.randint(0, 9), chance.choice((1, 1, 2, 5, chance.randint(1, 10000)))
            d = chance.choice((1, 2, 10, chance.randint(1, 1000000)))
            halves = chance.randint(0, 50) * unit * d // 2
            n = chance.choice((halves, max(0, halves - 1), halves + 1, chance.randint(0, 1000000000000)))
            self.assertEqual(rounded(rule, unit, n, d), model_round((rule, unit), Fraction(n, d)), (rule, unit, n, d))

    def test_out_of_range(self):
        right = [4, 5, 6, 7]
        edges = ((0, 9), (1, 10000), (0, 1000000000000), (1, 1000000))
        for place, (least, most) in enumerate(edges):
            for number in (least - 1, most + 1, GREAT, -GREAT):
                numbers = list(right)
                numbers[place] = number
                self.assertEqual(ask([ROUND] + numbers), [[-1]], numbers)
                self.assertEqual(ask_book("item a 5", [ROUND] + numbers), [[-1]], numbers)
        self.assertEqual(ask([ROUND, -1, 0, -1, 0]), [[-1]])

    def test_with_and_without_a_book(self):
        self.assertEqual(ask([ROUND, 1, 10, 5, 1], [3]), [[0, 10], [-2]])
        self.assertEqual(ask_book("item a 5\nround 0 7\ncash 0 9", [ROUND, 1, 10, 5, 1]), [[0, 10]])


if __name__ == "__main__":
    unittest.main()
