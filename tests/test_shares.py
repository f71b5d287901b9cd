"""shares: promise 2, shares add up to the whole, each less than one unit from its exact part."""

import random
import unittest
from fractions import Fraction

from tests.helper import GREAT, ask, ask_book, model_shares, shares

MOST = 10000000


def shared(whole, weights):
    answer = ask(shares(whole, weights))[0]
    if answer[0] != 0:
        raise AssertionError(answer)
    return answer[1:]


class Shares(unittest.TestCase):
    def test_the_greatest_remainders_get_the_units(self):
        # 10 by 1, 2, 3: 1 2/3, 3 1/3, 5.
        self.assertEqual(shared(10, [1, 2, 3]), [2, 3, 5])
        self.assertEqual(shared(10, [3, 2, 1]), [5, 3, 2])
        # 7 by 1, 2, 3: 1 1/6, 2 1/3, 3 1/2.
        self.assertEqual(shared(7, [1, 2, 3]), [1, 2, 4])
        # 5 by 2, 2, 3: 1 3/7, 1 3/7, 2 1/7; 6: 1 5/7, 1 5/7, 2 4/7.
        self.assertEqual(shared(5, [2, 2, 3]), [2, 1, 2])
        self.assertEqual(shared(6, [2, 2, 3]), [2, 2, 2])
        self.assertEqual(shared(1, [1, 3, 2]), [0, 1, 0])

    def test_of_equal_remainders_the_earlier(self):
        self.assertEqual(shared(100, [1, 1, 1]), [34, 33, 33])
        self.assertEqual(shared(101, [5, 5, 5]), [34, 34, 33])
        self.assertEqual(shared(1, [7, 7, 7, 7]), [1, 0, 0, 0])
        self.assertEqual(shared(3, [7, 7, 7, 7]), [1, 1, 1, 0])
        # 3 by 1, 3, 1, 1: a half each and one and a half.
        self.assertEqual(shared(3, [1, 3, 1, 1]), [1, 2, 0, 0])

    def test_weights_of_0_among_others(self):
        self.assertEqual(shared(10, [0, 1, 0, 2, 0]), [0, 3, 0, 7, 0])
        self.assertEqual(shared(1, [0, 0, 1, 1]), [0, 0, 1, 0])
        self.assertEqual(shared(5, [0, 9]), [0, 5])
        self.assertEqual(shared(5, [9, 0]), [5, 0])

    def test_one_weight(self):
        for weight in (1, 7, MOST):
            self.assertEqual([shared(whole, [weight]) for whole in (0, 1, 7, MOST)], [[0], [1], [7], [MOST]])

    def test_20_weights(self):
        self.assertEqual(shared(50, [1] * 20), [3] * 10 + [2] * 10)
        self.assertEqual(shared(MOST, [MOST] * 20), [MOST // 20] * 20)
        self.assertEqual(shared(19, [MOST] * 20), [1] * 19 + [0])

    def test_a_whole_of_0_and_the_greatest(self):
        self.assertEqual(shared(0, [1, 2, 3]), [0, 0, 0])
        self.assertEqual(shared(MOST, [1, 1, 1]), [3333334, 3333333, 3333333])
        self.assertEqual(shared(MOST, [1, MOST]), [1, 9999999])
        self.assertEqual(shared(MOST, [MOST, 1]), [9999999, 1])

    def test_with_and_without_a_book(self):
        self.assertEqual(ask_book("item a 5", shares(10, [1, 2])), [[0, 3, 7]])
        self.assertEqual(ask(shares(10, [1, 2]), [3]), [[0, 3, 7], [-2]])

    def test_they_add_up_each_less_than_one_unit_off(self):
        chance = random.Random(80)
        for turn in range(1500):
            top = chance.choice((2, 5, 100, MOST))
            weights = [chance.randint(0, top) for place in range(chance.randint(1, 20))] + [1]
            weights = weights[-20:]
            chance.shuffle(weights)
            whole = chance.choice((0, chance.randint(0, 40), chance.randint(0, MOST), MOST))
            found = shared(whole, weights)
            self.assertEqual(len(found), len(weights))
            self.assertEqual(sum(found), whole)
            for share, weight in zip(found, weights):
                self.assertLess(abs(share - Fraction(whole * weight, sum(weights))), 1)
            self.assertEqual(found, model_shares(whole, weights))


class Refusals(unittest.TestCase):
    def test_out_of_range(self):
        for whole in (-1, MOST + 1, GREAT, -GREAT):
            self.assertEqual(ask(shares(whole, [1])), [[-1]], whole)
        for weight in (-1, MOST + 1, GREAT, -GREAT):
            for weights in ([weight], [1, weight], [weight, 0], [0, weight, 1]):
                self.assertEqual(ask(shares(5, weights)), [[-1]], weights)
        for many in (21, 22, 2000):
            self.assertEqual(ask(shares(5, [1] * many)), [[-1]])

    def test_no_weight(self):
        for whole in (0, 5, MOST):
            for weights in ([], [0], [0, 0], [0] * 20):
                self.assertEqual(ask(shares(whole, weights)), [[-8]])
                self.assertEqual(ask_book("item a 5", shares(whole, weights)), [[-8]])

    def test_out_of_range_comes_ahead_of_no_weight(self):
        for whole in (-1, MOST + 1):
            for weights in ([], [0], [0] * 20):
                self.assertEqual(ask(shares(whole, weights)), [[-1]])
        self.assertEqual(ask(shares(5, [0] * 21)), [[-1]])
        # Together these weights are 0.
        self.assertEqual(ask(shares(5, [-1, 1])), [[-1]])


if __name__ == "__main__":
    unittest.main()
