"""best, and promise 1: no way is paid with less than the best way."""

import unittest

from tests.helper import (
    ask_book, best, best_answer, books, model_best, one_form, preference, price, priced_ways, some_basket,
)


def best_of(text, basket):
    return ask_book(text, best(basket))[0]


class Best(unittest.TestCase):
    def test_no_bundles_and_no_coupons(self):
        self.assertEqual(best_of("item a 5", [3]), [0, 15, 0, 0])
        self.assertEqual(best_of("", []), [0, 0, 0, 0])

    def test_a_bundle_as_often_as_it_fits(self):
        text = "item a 100\nbundle p 150 a 2"
        found = [best_of(text, [pieces]) for pieces in (0, 1, 2, 3, 4, 5, 6, 7, 8)]
        self.assertEqual(found, [
            [0, 0, 1, 0, 0], [0, 100, 1, 0, 0], [0, 150, 1, 1, 0], [0, 250, 1, 1, 0], [0, 300, 1, 2, 0],
            [0, 400, 1, 2, 0], [0, 450, 1, 3, 0], [0, 550, 1, 3, 0], [0, 650, 1, 3, 0],
        ])

    def test_a_bundle_that_costs_more(self):
        self.assertEqual(best_of("item a 100\nbundle p 201 a 2", [6]), [0, 600, 1, 0, 0])

    def test_bundles_that_share_pieces(self):
        text = "item a 100\nitem b 100\nbundle p 150 a 1 b 1\nbundle q 130 a 2\nbundle r 130 b 2"
        self.assertEqual(best_of(text, [2, 2]), [0, 260, 3, 0, 1, 1, 0])
        self.assertEqual(best_of(text, [3, 3]), [0, 410, 3, 1, 1, 1, 0])

    def test_coupons(self):
        text = "item a 1000\ncoupon x off 1000\ncoupon y less 50\ncoupon z off 2000\n"
        self.assertEqual(best_of(text, [1]), [0, 680, 0, 3, 1, 2, 3])

    def test_coupons_apart(self):
        text = "item a 1000\ncoupon x off 1000\ncoupon y less 50\ncoupon z off 2000\n"
        self.assertEqual(best_of(text + "apart x z", [1]), [0, 760, 0, 2, 2, 3])
        self.assertEqual(best_of(text + "apart z x\napart y z", [1]), [0, 800, 0, 1, 3])

    def test_when_may_speak_against_a_bundle(self):
        text = "item a 500\nbundle p 900 a 2\ncoupon x less {} when 1000"
        self.assertEqual(best_of(text.replace("{}", "101"), [2]), [0, 899, 1, 0, 1, 1])
        self.assertEqual(best_of(text.replace("{}", "99"), [2]), [0, 900, 1, 1, 0])
        # Equal: the fewest coupons.
        self.assertEqual(best_of(text.replace("{}", "100"), [2]), [0, 900, 1, 1, 0])

    def test_when_at_its_edge(self):
        text = "item a 10\ncoupon x less 5 when 30"
        self.assertEqual([best_of(text, [n]) for n in (2, 3, 4)], [[0, 20, 0, 0], [0, 25, 0, 1, 1], [0, 35, 0, 1, 1]])

    def test_less_paid_for_a_dearer_sum(self):
        # Taxes on top make the item without them the better one to take a coupon off.
        text = "tax t 10000 on\nitem a 100 t\nitem b 100\ncoupon x less 50 of a\ncoupon y less 60 of b\napart x y"
        self.assertEqual(best_of(text, [1, 1]), [0, 200, 0, 1, 1])


class Equal(unittest.TestCase):
    def test_the_fewest_coupons(self):
        self.assertEqual(best_of("item a 100\nitem b 5\ncoupon x less 10 of b", [1, 0]), [0, 100, 0, 0])
        self.assertEqual(best_of("item a 100\ncoupon x less 50\ncoupon y less 50\ncoupon z less 100", [1]),
                         [0, 0, 0, 1, 3])

    def test_fewer_coupons_go_ahead_of_bundles(self):
        self.assertEqual(best_of("item a 100\nbundle p 90 a 1\ncoupon x less 10 when 100", [1]), [0, 90, 1, 1, 0])

    def test_cash_makes_them_equal(self):
        self.assertEqual(best_of("item a 149\ncoupon x less 40\ncash 0 100", [1]), [0, 100, 0, 0])
        self.assertEqual(best_of("item a 149\ncoupon x less 50\ncash 0 100", [1]), [0, 0, 0, 1, 1])

    def test_bundles_number_by_number(self):
        self.assertEqual(best_of("item a 100\nbundle p 100 a 1", [3]), [0, 300, 1, 0, 0])
        self.assertEqual(best_of("item a 100\nbundle p 50 a 1\nbundle q 50 a 1", [1]), [0, 50, 2, 0, 1, 0])
        self.assertEqual(best_of("item a 100\nbundle p 50 a 1\nbundle q 50 a 1", [4]), [0, 200, 2, 1, 3, 0])
        # Once p or twice q: the first number decides, not how many in all.
        self.assertEqual(best_of("item a 100\nbundle p 100 a 2\nbundle q 50 a 1", [2]), [0, 100, 2, 0, 2, 0])
        text = "item a 100\nbundle p 50 a 1\nbundle q 50 a 1\nbundle r 50 a 1"
        self.assertEqual(best_of(text, [5]), [0, 250, 3, 0, 2, 3, 0])

    def test_bundles_go_ahead_of_the_set_of_coupons(self):
        # With bundle p only y holds as much as x without it.
        text = "item a 100\nbundle p 90 a 1\ncoupon x less 10 when 1\ncoupon y less 20 when 100\napart x y"
        self.assertEqual(best_of(text, [1]), [0, 80, 1, 0, 1, 2])

    def test_the_least_set_as_a_number(self):
        self.assertEqual(best_of("item a 100\ncoupon x less 10\ncoupon y less 10\napart x y", [1]), [0, 90, 0, 1, 1])
        text = "item a 100\n" + "".join(f"coupon c{k} less 10\n" for k in (1, 2, 3, 4))
        # 1 and 4 are 9, 2 and 3 are 6.
        text += "apart c1 c2\napart c1 c3\napart c2 c4\napart c4 c3\n"
        self.assertEqual(best_of(text, [1]), [0, 80, 0, 2, 2, 3])
        # 2 and 3 are 6, 1 and 3 are 5.
        text = "item a 100\n" + "".join(f"coupon c{k} less 10\n" for k in (1, 2, 3)) + "apart c1 c2\n"
        self.assertEqual(best_of(text, [1]), [0, 80, 0, 2, 1, 3])


class Promise1(unittest.TestCase):
    def test_against_every_way_with_price(self):
        for book, chance in books(10, 40, most_bundles=2, most_coupons=4):
            basket = some_basket(chance, book, 8)
            found = best_of(one_form(book), basket)
            ways = priced_ways(one_form(book), basket, len(book["bundles"]), len(book["coupons"]))
            self.assertEqual(found[1], min(way[0] for way in ways))
            self.assertEqual(found, best_answer(min(ways, key=preference)))

    def test_the_best_way_may_be_gone_and_is_paid_so(self):
        for book, chance in books(11, 60):
            basket = some_basket(chance, book, 10)
            found = best_of(one_form(book), basket)
            bundles = len(book["bundles"])
            self.assertEqual(found[:1] + found[2:3], [0, bundles])
            self.assertEqual(found[3 + bundles], len(found[4 + bundles:]))
            way = found[3:3 + bundles] + found[4 + bundles:]
            self.assertEqual(ask_book(one_form(book), price(basket, way)), [[0, found[1]]])

    def test_against_the_model(self):
        for book, chance in books(12, 60, most_bundles=2, most_coupons=4):
            baskets = [some_basket(chance, book, 10) for turn in range(3)]
            found = ask_book(one_form(book), *[best(basket) for basket in baskets])
            self.assertEqual(found, [model_best(book, basket) for basket in baskets])

    def test_a_book_of_full_size_against_the_model(self):
        for book, chance in books(13, 200):
            if len(book["bundles"]) == 3 and len(book["coupons"]) >= 4:
                basket = some_basket(chance, book, 10)
                self.assertEqual(best_of(one_form(book), basket), model_best(book, basket))

    def test_many_equal_ways_against_the_model(self):
        for book, chance in books(14, 80, most_items=3, most_bundles=2, most_coupons=4):
            book["cash"] = (chance.randint(0, 9), 5000)
            basket = some_basket(chance, book, 10)
            self.assertEqual(best_of(one_form(book), basket), model_best(book, basket))


if __name__ == "__main__":
    unittest.main()
