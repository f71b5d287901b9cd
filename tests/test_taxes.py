"""taxes and price, and promise 3: taxes held and the bare amount are the amount; lines and taxes on top what's due."""

import random
import unittest

from tests.helper import (
    ask_book, bill, books, model_taxes, one_form, price, some_basket, some_way, taxes,
)

SHOP = """tax vat 1900 in
tax eco 500 on
tax lux 1000 on over eco
item a 119 vat
item b 200 eco
item c 1000 vat eco lux
item d 1000 lux
item e 7
"""


def totals(text, basket, way=()):
    return ask_book(text, taxes(basket, list(way)))[0][1:]


class Taxes(unittest.TestCase):
    def test_in(self):
        self.assertEqual(totals(SHOP, [1, 0, 0, 0, 0]), [19, 0, 0, 119, 119, 119])
        self.assertEqual(totals(SHOP, [2, 0, 0, 0, 0]), [38, 0, 0, 238, 238, 238])

    def test_on(self):
        self.assertEqual(totals(SHOP, [0, 1, 0, 0, 0]), [0, 10, 0, 200, 210, 210])

    def test_in_and_on_and_over(self):
        # 1000 * 1900 / 11900 is 159.66; bare 840; 5 % of it 42; 10 % of 882 is 88.2.
        self.assertEqual(totals(SHOP, [0, 0, 1, 0, 0]), [160, 42, 88, 1000, 1130, 1130])

    def test_over_a_tax_that_is_not_the_items(self):
        self.assertEqual(totals(SHOP, [0, 0, 0, 1, 0]), [0, 0, 100, 1000, 1100, 1100])

    def test_no_taxes(self):
        self.assertEqual(totals(SHOP, [0, 0, 0, 0, 3]), [0, 0, 0, 21, 21, 21])
        self.assertEqual(totals("item a 7", [3]), [21, 21, 21])
        self.assertEqual(totals(SHOP, [0, 0, 0, 0, 0]), [0, 0, 0, 0, 0, 0])

    def test_all_together(self):
        self.assertEqual(totals(SHOP, [1, 1, 1, 1, 1]), [179, 52, 188, 2326, 2566, 2566])

    def test_several_that_are_in_share_one_whole(self):
        # 1000 * 2000 / 12500 is 160, 1000 * 500 / 12500 is 40; the bare amount is 800.
        text = "tax a 2000 in\ntax b 500 in\ntax c 10000 on\nitem i 1000 a b c\nitem j 1000 a c\nitem k 1000 c b"
        self.assertEqual(totals(text, [1, 0, 0]), [160, 40, 800, 1000, 1800, 1800])
        # 1000 * 2000 / 12000 is 166.67; 1000 * 500 / 10500 is 47.62.
        self.assertEqual(totals(text, [0, 1, 0]), [167, 0, 833, 1000, 1833, 1833])
        self.assertEqual(totals(text, [0, 0, 1]), [0, 48, 952, 1000, 1952, 1952])

    def test_over_one_that_is_over(self):
        text = "tax a 1000 on\ntax b 1000 on over a\ntax c 1000 on over b\nitem i 1000 c b a\nitem j 1000 c a"
        self.assertEqual(totals(text, [1, 0]), [100, 110, 111, 1000, 1321, 1321])
        self.assertEqual(totals(text, [0, 1]), [100, 0, 100, 1000, 1200, 1200])

    def test_over_takes_the_tax_as_rounded(self):
        text = "tax a 1000 on\ntax b 5000 on over a\nitem i {} b a\nround 4 10\n"
        # 55: a is 5.5, so 10; b is a half of 65, so 30 (of 60.5 it would be 30, too); 44: 4.4 is 0, 22 is 20.
        self.assertEqual(totals(text.replace("{}", "55"), [1]), [10, 30, 55, 95, 95])
        self.assertEqual(totals(text.replace("{}", "44"), [1]), [0, 20, 44, 64, 64])
        # 60: a is 6, so 10; b is a half of 70, so 40 (of 66 it would be 30).
        self.assertEqual(totals(text.replace("{}", "60"), [1]), [10, 40, 60, 110, 110])

    def test_rates_at_their_edges(self):
        self.assertEqual(totals("tax a 0 in\ntax b 0 on\nitem i 999 a b", [1]), [0, 0, 999, 999, 999])
        self.assertEqual(totals("tax a 10000 in\ntax b 10000 on\nitem i 999 a b", [1]), [500, 499, 999, 1498, 1498])

    def test_more_held_than_the_amount(self):
        text = "round 1 100\ntax a 100 in\ntax b 100 in\ntax c 5000 on\nitem i 50 a b c"
        self.assertEqual(totals(text, [1]), [100, 100, 0, 50, 50, 50])
        self.assertEqual(totals(text, [4]), [100, 100, 0, 200, 200, 200])
        self.assertEqual(totals(text, [5]), [100, 100, 100, 250, 350, 350])

    def test_cash(self):
        text = "tax t 1000 on\nitem a 123 t\ncash 4 5"
        self.assertEqual(totals(text, [1]), [12, 123, 135, 135])
        self.assertEqual(totals(text, [2]), [25, 246, 271, 270])
        self.assertEqual(totals("item a 123\ncash 1 100", [1]), [123, 123, 200])

    def test_coupons_and_bundles_come_first(self):
        text = SHOP + "bundle p 900 c 1\ncoupon x less 60\n"
        # 840: vat 134.12, bare 706, eco 35.3, lux 10 % of 741.
        self.assertEqual(totals(text, [0, 0, 1, 0, 0], [1, 1]), [134, 35, 74, 840, 949, 949])


class LineOrTotal(unittest.TestCase):
    text = "tax t 1000 on\ntax u 1000 on\nitem x 4 t\nitem y 4 t\nitem z 4 t\n"

    def test_by_line_each_line_is_rounded(self):
        self.assertEqual(totals(self.text + "by line", [1, 1, 1]), [0, 0, 12, 12, 12])
        self.assertEqual(totals(self.text + "by line", [2, 1, 1]), [1, 0, 16, 17, 17])

    def test_by_total_they_are_put_together(self):
        for by in ("", "by total"):
            self.assertEqual(totals(self.text + by, [1, 1, 1]), [1, 0, 12, 13, 13])

    def test_lines_of_one_item_and_its_bundle(self):
        text = "tax t 1000 on\nitem a 4 t\nbundle b 4 a 1\n"
        self.assertEqual(totals(text + "by line", [2], [1]), [0, 8, 8, 8])
        self.assertEqual(totals(text, [2], [1]), [1, 8, 9, 9])

    def test_the_same_taxes_in_another_order(self):
        text = "tax t 1000 on\ntax u 1000 on\nitem x 4 t u\nitem y 4 u t\n"
        self.assertEqual(totals(text, [1, 1]), [1, 1, 8, 10, 10])
        self.assertEqual(totals(text + "by line", [1, 1]), [0, 0, 8, 8, 8])

    def test_other_taxes_are_not_put_together(self):
        text = "tax t 1000 on\ntax u 0 on\nitem x 4 t u\nitem y 4 t\nitem z 4\nitem w 4 u"
        self.assertEqual(totals(text, [1, 1, 1, 1]), [0, 0, 16, 16, 16])


class Promise3(unittest.TestCase):
    def test_taxes_held_and_the_bare_amount_are_the_amount(self):
        # A tax of 10000 on top tells the bare amount, with a unit that divides it.
        chance = random.Random(30)
        for turn in range(400):
            rates = [chance.randint(0, 10000) for tax in range(3)]
            unit = chance.choice((1, 1, 1, 7))
            amount = chance.randint(0, 20000) * unit
            text = "".join(f"tax t{k} {rate} in\n" for k, rate in enumerate(rates))
            text += f"tax top 10000 on\nround {chance.randint(0, 9)} {unit}\nitem a {amount} t2 top t0 t1\n"
            found = totals(text, [1])
            held = sum(found[:3])
            self.assertEqual(found[3], max(0, amount - held))
            if held <= amount:
                self.assertEqual(held + found[3], amount)
            self.assertEqual(found[4:], [amount, amount + found[3], amount + found[3]])

    def test_lines_and_taxes_on_top_are_what_is_due(self):
        for book, chance in books(31, 120):
            for turn in range(5):
                basket, way = some_basket(chance, book), some_way(chance, book)
                on_bill, on_taxes, paid = ask_book(
                    one_form(book), bill(basket, way), taxes(basket, way), price(basket, way))
                if on_bill == [-4]:
                    self.assertEqual([on_taxes, paid], [[-4], [-4]])
                    continue
                on_top = [much for much, tax in zip(on_taxes[1:], book["taxes"]) if tax[2] == "on"]
                self.assertEqual(on_taxes[-3], sum(on_bill[2::2]))
                self.assertEqual(on_taxes[-2], on_taxes[-3] + sum(on_top))
                self.assertEqual(paid, [0, on_taxes[-1]])


class Model(unittest.TestCase):
    def test_against_the_model(self):
        for book, chance in books(32, 200):
            calls = [(some_basket(chance, book, 40), some_way(chance, book)) for turn in range(8)]
            want = [model_taxes(book, basket, way) for basket, way in calls]
            self.assertEqual(ask_book(one_form(book), *[taxes(basket, way) for basket, way in calls]), want)
            want = [[-4] if answer == [-4] else [0, answer[-1]] for answer in want]
            self.assertEqual(ask_book(one_form(book), *[price(basket, way) for basket, way in calls]), want)


if __name__ == "__main__":
    unittest.main()
