"""show: the bill as a text."""

import unittest

from tests.helper import (
    ask_book, bill, books, model_show, one_form, price, show, shown, some_basket, some_way, taxes,
)

BOOK = """tax vat 1900 in
tax eco 500 on
item tea 119 vat
item cup 200 eco
item pot 7
bundle set 250 tea 1 cup 1
bundle duo 10 pot 2
coupon ten off 1000
coupon few less 50 of cup
coupon big less 5 when 1000
apart few big
"""


class Show(unittest.TestCase):
    def test_every_kind_of_line(self):
        # Before coupons 119, 400, 7, 93 and 157 of 250, 10: together 786. Ten takes 79 off, few 50 off 360 and 141.
        want = """has tea 2
has cup 3
has pot 3
uses set 1
uses duo 1
with ten
with few
line tea 107
line cup 324
line pot 6
line tea 84
line cup 127
line pot 9
tax vat 30
tax eco 23
sum 657
due 680
pay 680
"""
        self.assertEqual(shown(BOOK, [2, 3, 3], [1, 1, 1, 2]), want)

    def test_an_empty_basket(self):
        self.assertEqual(shown(BOOK, [0, 0, 0], [0, 0]), "tax vat 0\ntax eco 0\nsum 0\ndue 0\npay 0\n")
        self.assertEqual(shown(BOOK, [0, 0, 0], [0, 0, 1, 2]),
                         "with ten\nwith few\ntax vat 0\ntax eco 0\nsum 0\ndue 0\npay 0\n")

    def test_a_book_without_items(self):
        self.assertEqual(shown("", [], []), "sum 0\ndue 0\npay 0\n")
        self.assertEqual(shown("tax t 5 in\ncoupon c less 5", [], [1]), "with c\ntax t 0\nsum 0\ndue 0\npay 0\n")

    def test_only_items_with_pieces_and_bundles_that_are_taken(self):
        self.assertEqual(shown(BOOK, [0, 1, 0], [0, 0]),
                         "has cup 1\nline cup 200\ntax vat 0\ntax eco 10\nsum 200\ndue 210\npay 210\n")
        self.assertEqual(shown(BOOK, [0, 0, 6], [0, 3]),
                         "has pot 6\nuses duo 3\nline pot 30\ntax vat 0\ntax eco 0\nsum 30\ndue 30\npay 30\n")

    def test_a_line_of_0_is_told(self):
        self.assertEqual(shown("item a 0\nitem b 5\nfree b 1 of 2", [40, 2], []),
                         "has a 40\nhas b 2\nline a 0\nline b 5\nsum 5\ndue 5\npay 5\n")

    def test_what_is_paid_is_rounded_by_cash(self):
        self.assertEqual(shown("item a 123\ncash 1 100", [1], []), "has a 1\nline a 123\nsum 123\ndue 123\npay 200\n")

    def test_numbers_of_more_than_8_digits(self):
        self.assertEqual(shown("tax t 10000 on\nitem a 10000000 t", [40], []),
                         "has a 40\nline a 400000000\ntax t 400000000\nsum 400000000\ndue 800000000\npay 800000000\n")
        text = "".join(f"item i{k} 10000000\n" for k in range(8))
        self.assertTrue(shown(text, [40] * 8, []).endswith("sum 3200000000\ndue 3200000000\npay 3200000000\n"))

    def test_it_tells_what_bill_taxes_and_price_answer(self):
        for book, chance in books(120, 80):
            for turn in range(4):
                basket, way = some_basket(chance, book), some_way(chance, book)
                text, lines, much, paid = ask_book(
                    one_form(book), show(basket, way), bill(basket, way), taxes(basket, way), price(basket, way))
                if text == [-4]:
                    self.assertEqual([lines, much, paid], [[-4]] * 3)
                    continue
                rows = [line.split(" ") for line in bytes(text[1:]).decode("ascii").splitlines()]
                names = [item["name"] for item in book["items"]]
                told = [(names.index(words[1]) + 1, int(words[2])) for words in rows if words[0] == "line"]
                self.assertEqual(told, list(zip(lines[1::2], lines[2::2])))
                self.assertEqual([int(words[-1]) for words in rows if words[0] in ("tax", "sum", "due", "pay")], much[1:])
                self.assertEqual(rows[-1], ["pay", str(paid[1])])

    def test_against_the_model(self):
        for book, chance in books(121, 150):
            for turn in range(4):
                basket, way = some_basket(chance, book, 40), some_way(chance, book, chance.choice((1, 3)))
                want = model_show(book, basket, way)
                answer = ask_book(one_form(book), show(basket, way))[0]
                self.assertEqual(answer, [-4] if want is None else [0] + list(want.encode("ascii")))


if __name__ == "__main__":
    unittest.main()
