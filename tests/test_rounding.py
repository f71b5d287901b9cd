"""Roundings: each rule, at a multiple, below, at and above the half, by round and by cash, and by neither."""

import unittest

from tests.helper import ask_book, bill, price, taxes

# What 2, 2 1/4, 2 1/2, 2 3/4, 3, 3 1/4, 3 1/2, 3 3/4 units become, in units.
QUARTERS = range(8, 16)
DOWN = [2, 2, 2, 2, 3, 3, 3, 3]
UP = [2, 3, 3, 3, 3, 4, 4, 4]
HALF_UP = [2, 2, 3, 3, 3, 3, 4, 4]
HALF_DOWN = [2, 2, 2, 3, 3, 3, 3, 4]
HALF_EVEN = [2, 2, 2, 3, 3, 3, 4, 4]
HALF_ODD = [2, 2, 3, 3, 3, 3, 3, 4]
RULES = [DOWN, UP, DOWN, UP, HALF_UP, HALF_DOWN, HALF_DOWN, HALF_UP, HALF_EVEN, HALF_ODD]


def paid(text):
    return ask_book(text, price([1], []))[0][1]


def one_tax(text):
    return ask_book(text, taxes([1], []))[0][1]


class Cash(unittest.TestCase):
    def test_each_rule(self):
        for rule, want in enumerate(RULES):
            for unit in (4, 20, 100, 10000):
                found = [paid(f"item a {unit * quarter // 4}\ncash {rule} {unit}") for quarter in QUARTERS]
                self.assertEqual(found, [unit * times for times in want], (rule, unit))

    def test_next_to_the_half(self):
        for rule, want in enumerate(RULES):
            around = [paid(f"item a {amount}\ncash {rule} 100") for amount in (249, 251, 201, 299, 349, 351)]
            self.assertEqual(around, [100 * want[place] for place in (1, 3, 1, 3, 5, 7)], rule)

    def test_no_half_with_an_odd_unit(self):
        for rule in (4, 5, 6, 7, 8, 9):
            self.assertEqual([paid(f"item a {amount}\ncash {rule} 5") for amount in range(10, 16)],
                             [10, 10, 10, 15, 15, 15], rule)

    def test_from_0_on(self):
        for rule, want in enumerate([0, 10, 0, 10, 10, 0, 0, 10, 0, 10]):
            self.assertEqual([paid(f"item a {amount}\ncash {rule} 10") for amount in (0, 5, 10)], [0, want, 10], rule)

    def test_a_unit_of_1_leaves_what_is_due(self):
        for rule in range(10):
            self.assertEqual(paid(f"item a 1237\ncash {rule} 1"), 1237)

    def test_without_cash(self):
        self.assertEqual(paid("item a 1237"), 1237)
        self.assertEqual(paid("item a 1237\nround 1 100"), 1237)


class Percents(unittest.TestCase):
    def test_taxes_on(self):
        for rule, want in enumerate(RULES):
            for unit in (1, 3, 100):
                found = [one_tax(f"tax t 2500 on\nitem a {unit * quarter} t\nround {rule} {unit}")
                         for quarter in QUARTERS]
                self.assertEqual(found, [unit * times for times in want], (rule, unit))

    def test_taxes_in(self):
        # A rate of 10000 is a half of the amount, which holds it.
        for rule, want in enumerate(RULES):
            for unit in (2, 50):
                found = [one_tax(f"tax t 10000 in\nitem a {unit * quarter // 2} t\nround {rule} {unit}")
                         for quarter in QUARTERS]
                self.assertEqual(found, [unit * times for times in want], (rule, unit))

    def test_coupons(self):
        for rule, want in enumerate(RULES):
            for unit in (1, 7, 100):
                for quarter, times in zip(QUARTERS, want):
                    text = f"item a {unit * quarter}\ncoupon c off 2500\nround {rule} {unit}"
                    found = ask_book(text, bill([1], [1]))[0]
                    self.assertEqual(found, [0, 1, unit * quarter - unit * times], (rule, unit, quarter))

    def test_without_round_the_half_goes_up(self):
        found = [one_tax(f"tax t 2500 on\nitem a {quarter} t\ncash 0 100") for quarter in QUARTERS]
        self.assertEqual(found, HALF_UP)
        found = [ask_book(f"item a {quarter}\ncoupon c off 2500", bill([1], [1]))[0][2] for quarter in QUARTERS]
        self.assertEqual(found, [quarter - times for quarter, times in zip(QUARTERS, HALF_UP)])

    def test_less_is_not_rounded(self):
        self.assertEqual(ask_book("item a 1000\ncoupon c less 33\nround 1 100", bill([1], [1])), [[0, 1, 967]])
        self.assertEqual(ask_book("item a 1000\ncoupon c off 5000 cap 33\nround 1 100", bill([1], [1])), [[0, 1, 967]])

    def test_what_pieces_cost_is_not_rounded(self):
        self.assertEqual(ask_book("item a 7\nround 1 100", bill([3], [])), [[0, 1, 21]])


if __name__ == "__main__":
    unittest.main()
