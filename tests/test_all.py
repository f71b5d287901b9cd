"""all: how many ways may be gone."""

import unittest

from tests.helper import (
    GREAT, all_of, ask, ask_book, books, model_ways, one_form, priced_ways, read, some_basket,
)


def how_many(text, *baskets):
    found = ask_book(text, *[all_of(basket) for basket in baskets])
    return [answer[1] if answer[0] == 0 and len(answer) == 2 else answer for answer in found]


class All(unittest.TestCase):
    def test_no_bundles_and_no_coupons(self):
        self.assertEqual(how_many("item a 5", [0], [1], [40]), [1, 1, 1])

    def test_a_book_without_items(self):
        self.assertEqual(how_many("", []), [1])
        self.assertEqual(how_many("tax t 5 in\nround 1 5", []), [1])
        self.assertEqual(how_many("coupon x off 5\ncoupon y less 5\ncoupon z less 5 when 1", []), [4])
        self.assertEqual(how_many("coupon x off 5\ncoupon y less 5\napart x y", []), [3])

    def test_an_empty_basket(self):
        text = "item a 5\nitem b 5\nbundle p 5 a 1\nbundle q 5 b 1 a 1\ncoupon x off 5\ncoupon y less 5 when 1\n"
        self.assertEqual(how_many(text, [0, 0]), [2])

    def test_bundles_0_to_3_times(self):
        text = "item a 5\nbundle p 5 a 2"
        self.assertEqual(how_many(text, *[[n] for n in range(10)]), [1, 1, 2, 2, 3, 3, 4, 4, 4, 4])
        text = "item a 5\nitem b 5\nitem c 5\nbundle p 5 a 1\nbundle q 5 b 1\nbundle r 5 c 1"
        self.assertEqual(how_many(text, [3, 3, 3], [40, 40, 40], [3, 3, 2], [3, 3, 0], [0, 1, 2]), [64, 64, 48, 16, 6])

    def test_bundles_that_share_pieces(self):
        text = "item a 5\nbundle p 5 a 1\nbundle q 5 a 2"
        # Of 4 pieces: with 0 of q 0 to 3 of p, with 1 of q 0 to 2, with 2 of q 0.
        self.assertEqual(how_many(text, [4], [8], [9]), [8, 15, 16])
        self.assertEqual(how_many("item a 5\nbundle p 5 a 40", [39], [40]), [1, 2])

    def test_sets_of_coupons(self):
        for many in range(6):
            text = "item a 5\n" + "".join(f"coupon c{k} off 5\n" for k in range(many))
            self.assertEqual(how_many(text, [0], [3]), [2 ** many, 2 ** many])

    def test_coupons_apart(self):
        text = "item a 5\ncoupon x off 5\ncoupon y off 5\ncoupon z off 5\n"
        self.assertEqual(how_many(text + "apart x y", [1]), [6])
        self.assertEqual(how_many(text + "apart z x", [1]), [6])
        self.assertEqual(how_many(text + "apart x y\napart y z", [1]), [5])
        self.assertEqual(how_many(text + "apart y x\napart z y\napart z x", [1]), [4])

    def test_when(self):
        text = "item a 10\nbundle p 15 a 2\ncoupon x off 10000\ncoupon y less 5 when 20\n"
        # 2 pieces: 20 without the bundle (4 sets), 15 with it (2 sets); x ahead of y speaks not against y.
        self.assertEqual(how_many(text, [1], [2], [3]), [2, 6, 8])
        self.assertEqual(how_many("item a 10\ncoupon y less 5 when 20\ncoupon z less 5 when 21", [2], [3]), [2, 4])

    def test_the_most_ways(self):
        text = "item a 5\n" + "".join(f"bundle b{k} 5 a 1\n" for k in range(3))
        text += "".join(f"coupon c{k} off 5\n" for k in range(5))
        self.assertEqual(how_many(text, [9], [8]), [2048, 63 * 32])

    def test_against_every_way_with_price(self):
        for book, chance in books(70, 40, most_bundles=2, most_coupons=4):
            basket = some_basket(chance, book, 8)
            ways = priced_ways(one_form(book), basket, len(book["bundles"]), len(book["coupons"]))
            self.assertEqual(how_many(one_form(book), basket), [len(ways)])

    def test_against_the_model(self):
        for book, chance in books(71, 40):
            baskets = [some_basket(chance, book, 10) for turn in range(2)]
            want = [len(model_ways(book, basket)) for basket in baskets]
            self.assertEqual(how_many(one_form(book), *baskets), want)


class Refusals(unittest.TestCase):
    def test_no_book_comes_first(self):
        for basket in ([], [1], [-1], [41], [GREAT], [1] * 2000):
            self.assertEqual(ask(all_of(basket)), [[-2]])

    def test_a_basket_that_is_not_so(self):
        for basket in ([], [1], [1, 1, 1], [-1, 1], [1, 41], [GREAT, 1], [1, -GREAT], [1] * 2000):
            self.assertEqual(ask(read("item a 5\nitem b 5"), all_of(basket)), [[0, 2], [-1]])
        self.assertEqual(ask(read(""), all_of([0])), [[0, 0], [-1]])
        self.assertEqual(ask(read("item a 5\nitem b 5"), all_of([0, 40])), [[0, 2], [0, 1]])


if __name__ == "__main__":
    unittest.main()
