"""bill: lines, bundles, coupons, and promise 2: shares add up, a discount is off the lines to the unit."""

import unittest
from fractions import Fraction

from tests.helper import (
    ask_book, bill, books, model_bill, model_lines, model_round, one_form, some_basket, some_way,
)


def lines(text, basket, way):
    answer = ask_book(text, bill(basket, way))[0]
    if answer[0] != 0:
        raise AssertionError(answer)
    return list(zip(answer[1::2], answer[2::2]))


SHOP = "item a 100\nitem b 200\nitem c 0\nitem d 0\nbundle p 250 a 1 b 1\nbundle q 10 c 1 d 2\nbundle r 50 c 1 a 2\n"


class Lines(unittest.TestCase):
    def test_an_empty_basket(self):
        self.assertEqual(lines(SHOP, [0, 0, 0, 0], [0, 0, 0]), [])

    def test_items_by_number(self):
        self.assertEqual(lines(SHOP, [3, 0, 2, 1], [0, 0, 0]), [(1, 300), (3, 0), (4, 0)])
        self.assertEqual(lines(SHOP, [40, 1, 0, 0], [0, 0, 0]), [(1, 4000), (2, 200)])

    def test_a_bundle_taken_0_to_3_times(self):
        found = [lines(SHOP, [3, 3, 0, 0], [times, 0, 0]) for times in range(4)]
        self.assertEqual(found, [
            [(1, 300), (2, 600)],
            [(1, 200), (2, 400), (1, 83), (2, 167)],
            [(1, 100), (2, 200), (1, 167), (2, 333)],
            [(1, 250), (2, 500)],
        ])

    def test_pieces_left_cost_as_so_many_pieces(self):
        text = "item a 100\nfrom a 3 60\nitem b 100\nstep b 2 10\nitem c 100\nfree c 1 of 2\nbundle p 5 c 1 b 1 a 1\n"
        self.assertEqual(lines(text, [3, 3, 3], [0]), [(1, 180), (2, 120), (3, 200)])
        self.assertEqual(lines(text, [3, 3, 3], [1]), [(1, 200), (2, 110), (3, 100), (3, 2), (2, 2), (1, 1)])

    def test_prices_that_are_all_0_share_by_the_pieces(self):
        # 10 by 1 and 2 is 3 1/3 and 6 2/3.
        self.assertEqual(lines(SHOP, [0, 0, 1, 2], [0, 1, 0]), [(3, 3), (4, 7)])
        self.assertEqual(lines(SHOP, [0, 0, 3, 6], [0, 3, 0]), [(3, 10), (4, 20)])

    def test_a_price_that_is_0_beside_another(self):
        self.assertEqual(lines(SHOP, [2, 0, 1, 0], [0, 0, 1]), [(3, 0), (1, 50)])

    def test_a_bundle_that_costs_nothing(self):
        self.assertEqual(lines("item a 5\nitem b 6\nbundle p 0 b 1 a 1", [1, 1], [1]), [(2, 0), (1, 0)])

    def test_shares_go_by_the_price_and_not_by_from_lines(self):
        text = "item a 300\nfrom a 2 1\nitem b 100\nbundle p 100 a 2 b 2"
        self.assertEqual(lines(text, [2, 2], [1]), [(1, 75), (2, 25)])

    def test_several_bundles_by_number(self):
        found = lines(SHOP, [7, 1, 5, 4], [1, 2, 3])
        # 20 by 1 and 2 is 6 2/3 and 13 1/3.
        self.assertEqual(found, [(1, 83), (2, 167), (3, 7), (4, 13), (3, 0), (1, 150)])

    def test_greatest_remainders_get_the_units(self):
        text = "item a 1\nitem b 2\nitem c 3\nbundle p {} a 1 b 1 c 1"
        for cost, want in ((10, [2, 3, 5]), (11, [2, 4, 5]), (7, [1, 2, 4]), (1, [0, 0, 1]), (2, [0, 1, 1])):
            found = lines(text.replace("{}", str(cost)), [1, 1, 1], [1])
            self.assertEqual([amount for number, amount in found], want, cost)

    def test_of_equal_remainders_the_earlier(self):
        text = "item a 5\nitem b 5\nitem c 5\nbundle p {} c 1 a 1 b 1"
        for cost, want in ((100, [34, 33, 33]), (101, [34, 34, 33]), (102, [34, 34, 34]), (1, [1, 0, 0])):
            found = lines(text.replace("{}", str(cost)), [1, 1, 1], [1])
            self.assertEqual(found, list(zip((3, 1, 2), want)), cost)


class Coupons(unittest.TestCase):
    def test_one_after_the_other(self):
        text = SHOP + "coupon x off 1000\ncoupon y less 50 of a\n"
        basket, counts = [5, 3, 0, 0], [2, 0, 0]
        self.assertEqual(lines(text, basket, counts), [(1, 300), (2, 200), (1, 167), (2, 333)])
        # 100 off 1000: 30, 20, 16.7, 33.3.
        self.assertEqual(lines(text, basket, counts + [1]), [(1, 270), (2, 180), (1, 150), (2, 300)])
        # 50 off 270 and 150: 32.14, 17.86.
        self.assertEqual(lines(text, basket, counts + [1, 2]), [(1, 238), (2, 180), (1, 132), (2, 300)])
        # 50 off 300 and 167: 32.12, 17.88.
        self.assertEqual(lines(text, basket, counts + [2]), [(1, 268), (2, 200), (1, 149), (2, 333)])

    def test_by_number_and_not_otherwise(self):
        self.assertEqual(lines("item a 100\ncoupon x off 5000\ncoupon y less 10", [1], [1, 2]), [(1, 40)])
        self.assertEqual(lines("item a 100\ncoupon x less 10\ncoupon y off 5000", [1], [1, 2]), [(1, 45)])

    def test_not_more_than_the_base(self):
        self.assertEqual(lines("item a 30\ncoupon x less 31", [1], [1]), [(1, 0)])
        self.assertEqual(lines("item a 30\ncoupon x less 30", [1], [1]), [(1, 0)])
        self.assertEqual(lines("item a 30\ncoupon x less 29", [1], [1]), [(1, 1)])
        self.assertEqual(lines("item a 30\ncoupon x off 10000", [1], [1]), [(1, 0)])
        self.assertEqual(lines("item a 30\ncoupon x off 9000\nround 1 100", [1], [1]), [(1, 0)])

    def test_cap(self):
        for cap, left in ((1, 999), (499, 501), (500, 500), (501, 500), (10000000, 500)):
            self.assertEqual(lines(f"item a 1000\ncoupon x off 5000 cap {cap}", [1], [1]), [(1, left)], cap)
        self.assertEqual(lines("item a 1000\ncoupon x less 400 cap 300", [1], [1]), [(1, 700)])
        self.assertEqual(lines("item a 100\ncoupon x less 400 cap 300", [1], [1]), [(1, 0)])

    def test_when_the_lines_before_coupons_are_enough(self):
        text = "item a 100\nbundle p 150 a 2\ncoupon x less 40\ncoupon y less 10 when 200\n"
        self.assertEqual(lines(text, [2], [0, 1, 2]), [(1, 150)])
        self.assertEqual(ask_book(text, bill([2], [1, 2]), bill([1], [0, 2])), [[-4], [-4]])
        self.assertEqual(lines(text, [3], [1, 2]), [(1, 96), (1, 144)])

    def test_of_an_item(self):
        text = "item a 100\nitem b 100\nbundle p 100 b 1 a 1\ncoupon x off 1000 of b\n"
        self.assertEqual(lines(text, [2, 2], [1, 1]), [(1, 100), (2, 90), (2, 45), (1, 50)])
        self.assertEqual(lines(text, [2, 0], [0, 1]), [(1, 200)])

    def test_a_base_of_0(self):
        self.assertEqual(lines("item a 0\ncoupon x less 5\ncoupon y off 10", [2], [1, 2]), [(1, 0)])
        self.assertEqual(lines("item a 0\nitem b 7\ncoupon x less 5 of a", [2, 1], [1]), [(1, 0), (2, 7)])
        self.assertEqual(lines("item a 5\ncoupon x less 5", [0], [1]), [])
        self.assertEqual(lines("item a 5\ncoupon x off 5 of a", [0], [1]), [])
        self.assertEqual(lines("coupon x less 5\ncoupon y off 5", [], [1, 2]), [])
        self.assertEqual(lines("item a 30\ncoupon x off 10000\ncoupon y less 7", [1], [1, 2]), [(1, 0)])

    def test_equal_remainders(self):
        text = "item a 100\nitem b 100\nitem c 100\ncoupon x less {}"
        for less, want in ((1, [99, 100, 100]), (2, [99, 99, 100]), (3, [99, 99, 99]), (299, [0, 0, 1]), (298, [0, 1, 1])):
            found = lines(text.replace("{}", str(less)), [1, 1, 1], [1])
            self.assertEqual([amount for number, amount in found], want, less)

    def test_a_line_of_0_stays(self):
        self.assertEqual(lines("item a 0\nitem b 3\nitem c 3\ncoupon x less 5", [1, 1, 1], [1]),
                         [(1, 0), (2, 0), (3, 1)])


class Promise2(unittest.TestCase):
    def test_bundle_lines_add_up_each_less_than_a_unit_off(self):
        for book, chance in books(20, 80):
            for number, (name, cost, parts) in enumerate(book["bundles"]):
                basket = [0] * len(book["items"])
                times = chance.randint(1, 3)
                for k, pieces in parts:
                    basket[k] = pieces * times
                way = [0] * len(book["bundles"])
                way[number] = times
                found = lines(one_form(book), basket, way)
                self.assertEqual([k for k, amount in found], [k + 1 for k, pieces in parts])
                self.assertEqual(sum(amount for k, amount in found), cost * times)
                weights = [book["items"][k]["price"] * pieces for k, pieces in parts]
                if not any(weights):
                    weights = [pieces for k, pieces in parts]
                for (k, amount), weight in zip(found, weights):
                    self.assertLess(abs(amount - Fraction(cost * times * weight, sum(weights))), 1)

    def test_a_discount_is_off_the_lines_to_the_unit(self):
        seen = 0
        for book, chance in books(21, 120):
            book["apart"] = []
            basket = some_basket(chance, book)
            counts = [0] * len(book["bundles"])
            chosen = []
            for number, coupon in enumerate(book["coupons"], start=1):
                if model_lines(book, basket, counts + chosen + [number]) is None:
                    continue
                before = lines(one_form(book), basket, counts + chosen)
                chosen.append(number)
                after = lines(one_form(book), basket, counts + chosen)
                base = [amount for k, amount in before if coupon["item"] in (None, k - 1)]
                want = coupon["n"]
                if coupon["kind"] == "off":
                    want = model_round(book["round"], Fraction(sum(base) * want, 10000))
                want = min(want, sum(base), coupon["cap"] or want)
                self.assertEqual([k for k, amount in before], [k for k, amount in after])
                taken = [old[1] - new[1] for old, new in zip(before, after)]
                self.assertEqual(sum(taken), want)
                for (k, amount), off in zip(before, taken):
                    exact = Fraction(0)
                    if sum(base) and coupon["item"] in (None, k - 1):
                        exact = Fraction(want * amount, sum(base))
                    self.assertLess(abs(off - exact), 1)
                    self.assertLessEqual(off, amount)
                    seen += 1
        self.assertGreater(seen, 300)


class Model(unittest.TestCase):
    def test_against_the_model(self):
        for seed, times in ((22, 1), (23, 3)):
            for book, chance in books(seed, 120):
                calls = [(some_basket(chance, book, 40), some_way(chance, book, times)) for turn in range(10)]
                found = ask_book(one_form(book), *[bill(basket, way) for basket, way in calls])
                self.assertEqual(found, [model_bill(book, basket, way) for basket, way in calls])


if __name__ == "__main__":
    unittest.main()
