"""parts, and promise 3: taxes that prices hold and the bare amount are together the amount."""

import unittest

from tests.helper import GREAT, PARTS, ask, ask_book, books, model_parts, one_form, price

MOST = 10000000
SHOP = """tax vat 1900 in
tax eco 500 on
tax lux 1000 on over eco
item a 119 vat
item b 200 eco
item c 1000 lux vat eco
item d 1000 lux
item e 7
"""


def parts(text, item, amount):
    return ask_book(text, [PARTS, item, amount])[0]


class Parts(unittest.TestCase):
    def test_in(self):
        self.assertEqual(parts(SHOP, 1, 119), [0, 100, 119, 1, 19])

    def test_on(self):
        self.assertEqual(parts(SHOP, 2, 200), [0, 200, 210, 2, 10])

    def test_in_and_on_and_over_in_the_books_order(self):
        # 1000 * 1900 / 11900 is 159.66; bare 840; 5 % of it 42; 10 % of 882 is 88.2.
        self.assertEqual(parts(SHOP, 3, 1000), [0, 840, 1130, 1, 160, 2, 42, 3, 88])

    def test_over_a_tax_that_is_not_the_items(self):
        self.assertEqual(parts(SHOP, 4, 1000), [0, 1000, 1100, 3, 100])

    def test_no_taxes(self):
        self.assertEqual(parts(SHOP, 5, 7), [0, 7, 7])
        self.assertEqual(parts(SHOP, 5, 0), [0, 0, 0])

    def test_the_amount_is_not_the_items_price(self):
        self.assertEqual(parts(SHOP, 1, 238), [0, 200, 238, 1, 38])
        self.assertEqual(parts(SHOP + "from a 2 1\nfree a 1 of 2", 1, 238), [0, 200, 238, 1, 38])

    def test_both_edges(self):
        self.assertEqual(parts(SHOP, 3, 0), [0, 0, 0, 1, 0, 2, 0, 3, 0])
        self.assertEqual(parts(SHOP, 1, MOST), [0, 8403361, MOST, 1, 1596639])

    def test_what_is_paid_is_rounded_by_cash_and_taxes_by_round(self):
        self.assertEqual(parts(SHOP + "cash 0 100", 3, 1000), [0, 840, 1100, 1, 160, 2, 42, 3, 88])
        self.assertEqual(parts(SHOP + "cash 1 100", 3, 1000), [0, 840, 1200, 1, 160, 2, 42, 3, 88])
        # By 100 and up: 200 are held, of 800 40 is 100, of 900 90 is 100.
        self.assertEqual(parts(SHOP + "round 1 100", 3, 1000), [0, 800, 1200, 1, 200, 2, 100, 3, 100])
        self.assertEqual(parts("item a 5\nround 1 100", 1, 77), [0, 77, 77])

    def test_more_held_than_the_amount(self):
        text = "round 1 100\ntax a 100 in\ntax b 100 in\ntax c 5000 on\nitem i 50 a b c"
        self.assertEqual(parts(text, 1, 50), [0, 0, 50, 1, 100, 2, 100, 3, 0])
        self.assertEqual(parts(text, 1, 200), [0, 0, 200, 1, 100, 2, 100, 3, 0])
        self.assertEqual(parts(text, 1, 201), [0, 1, 301, 1, 100, 2, 100, 3, 100])
        self.assertEqual(parts(text, 1, 0), [0, 0, 0, 1, 0, 2, 0, 3, 0])

    def test_rates_at_their_edges(self):
        self.assertEqual(parts("tax a 0 in\ntax b 10000 in\ntax c 0 on\nitem i 5 c b a", 1, 100),
                         [0, 50, 100, 1, 0, 2, 50, 3, 0])

    def test_by_line_and_by_total_are_the_same_for_one_amount(self):
        self.assertEqual(parts(SHOP + "by line", 3, 1000), parts(SHOP + "by total", 3, 1000))


class Promise3(unittest.TestCase):
    def test_taxes_held_and_the_bare_amount_are_the_amount(self):
        seen = 0
        for book, chance in books(100, 120):
            for number, item in enumerate(book["items"], start=1):
                amount = chance.choice((chance.randint(0, 300), chance.randint(0, MOST)))
                answer = parts(one_form(book), number, amount)
                self.assertEqual(answer[3::2], [k + 1 for k in sorted(item["taxes"])])
                found = list(zip(answer[3::2], answer[4::2]))
                held = sum(much for k, much in found if book["taxes"][k - 1][2] == "in")
                self.assertEqual(answer[1], max(0, amount - held))
                seen += held <= amount
        self.assertGreater(seen, 300)

    def test_against_the_model(self):
        for book, chance in books(101, 120):
            for number, item in enumerate(book["items"], start=1):
                amounts = [0, chance.randint(0, 300), chance.randint(0, 30000), MOST]
                found = ask_book(one_form(book), *[[PARTS, number, amount] for amount in amounts])
                self.assertEqual(found, [model_parts(book, item, amount) for amount in amounts])

    def test_one_piece_alone_is_paid_so(self):
        for book, chance in books(102, 60):
            for number, item in enumerate(book["items"], start=1):
                basket = [0] * len(book["items"])
                basket[number - 1] = 1
                paid = ask_book(one_form(book), price(basket, [0] * len(book["bundles"])))[0][1]
                self.assertEqual(parts(one_form(book), number, item["price"])[2], paid)


class Refusals(unittest.TestCase):
    def test_in_their_order(self):
        for amount in (-1, MOST + 1, GREAT, -GREAT):
            for item in (0, 1, 6):
                self.assertEqual(ask([PARTS, item, amount]), [[-1]])
                self.assertEqual(ask_book(SHOP, [PARTS, item, amount]), [[-1]])
        for item in (0, 1, 6, GREAT, -GREAT):
            self.assertEqual(ask([PARTS, item, 5]), [[-2]])
        for item in (0, 6, -1, GREAT, -GREAT):
            self.assertEqual(ask_book(SHOP, [PARTS, item, 5]), [[-3]])
        for item in (1, 5):
            self.assertEqual(ask_book(SHOP, [PARTS, item, 5])[0][0], 0)


if __name__ == "__main__":
    unittest.main()
