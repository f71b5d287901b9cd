"""nets, and promise 5: if for some amount just the gross is paid, the least such amount is told."""

import random
import time
import unittest

from tests.helper import (
    GREAT, NETS, PARTS, ask, ask_book, empty_book, model_paid, one_form, read,
)

MOST = 10000000


def nets(text, *grosses):
    return ask_book(text, *[[NETS, 1, gross] for gross in grosses])


def some_shop(chance, units):
    """A book with one item, whose taxes are all on."""
    book = empty_book()
    for number in range(chance.randint(0, 4)):
        over = chance.choice([None] + list(range(number)))
        book["taxes"].append((f"t{number}", chance.choice((0, 10000, chance.randint(1, 3000))), "on", over))
    there = len(book["taxes"])
    chosen = chance.sample(range(there), chance.randint(0, there))
    book["items"].append({"name": "a", "price": 5, "kind": "from", "taxes": chosen, "lines": [], "free": None})
    book["round"] = chance.choice((None, (chance.randint(0, 9), chance.choice(units))))
    book["cash"] = chance.choice((None, (chance.randint(0, 9), chance.choice(units))))
    return book


class Nets(unittest.TestCase):
    def test_an_item_without_taxes(self):
        self.assertEqual(nets("item a 5", 0, 1, 77, MOST), [[0, 0, 1], [0, 1, 1], [0, 77, 1], [0, MOST, 1]])
        self.assertEqual(nets("tax t 5000 in\nitem a 5\nround 1 100", 77), [[0, 77, 1]])

    def test_one_tax_on(self):
        # Of 10 %, the half up: 4 is paid with 4, 5 with 6 (0.5 is 1), 14 with 15, 15 with 17.
        found = nets("tax t 1000 on\nitem a 5 t", 0, 4, 5, 6, 15, 16, 17, 110)
        self.assertEqual(found, [[0, 0, 1], [0, 4, 1], [-7], [0, 5, 1], [0, 14, 1], [-7], [0, 15, 1], [0, 100, 1]])

    def test_a_tax_of_10000_leaves_every_second(self):
        found = nets("tax t 10000 on\nitem a 5 t", 0, 1, 2, 3, 9999999, MOST)
        self.assertEqual(found, [[0, 0, 1], [-7], [0, 1, 1], [-7], [-7], [0, 5000000, 1]])

    def test_several_taxes(self):
        text = "tax t 1000 on\ntax u 500 on\nitem a 5 u t"
        self.assertEqual(nets(text, 1150, 115), [[0, 1000, 1], [0, 100, 1]])

    def test_a_tax_over_a_tax(self):
        text = "tax t 1000 on\ntax u 1000 on over t\nitem a 5 t u\nitem b 5 u"
        # 1000: 100 and 110; without the other 100.
        found = ask_book(text, [NETS, 1, 1210], [NETS, 2, 1210], [NETS, 2, 1100], [PARTS, 1, 1000], [PARTS, 2, 1100])
        self.assertEqual(found, [[0, 1000, 1], [0, 1100, 1], [0, 1000, 1], [0, 1000, 1210, 1, 100, 2, 110],
                                 [0, 1100, 1210, 2, 110]])

    def test_cash_makes_many_amounts(self):
        wants = ([100, 10], [91, 10], [100, 10], [91, 10], [95, 10], [96, 10], [96, 10], [95, 10], [95, 11], [96, 9])
        for rule, want in enumerate(wants):
            self.assertEqual(nets(f"item a 5\ncash {rule} 10", 100), [[0] + want], rule)
            self.assertEqual(nets(f"item a 5\ncash {rule} 10", 99, 101), [[-7], [-7]], rule)

    def test_a_gross_of_0(self):
        wants = (10, 1, 10, 1, 5, 6, 6, 5, 6, 5)
        for rule, want in enumerate(wants):
            self.assertEqual(nets(f"item a 5\ncash {rule} 10", 0), [[0, 0, want]], rule)
        # From the least amount on the tax is 10.
        self.assertEqual(nets("tax t 1 on\nitem a 5 t\nround 1 10", 0, 1, 10, 11), [[0, 0, 1], [-7], [-7], [0, 1, 1]])

    def test_the_greatest_gross_and_unit(self):
        for rule, want in ((0, [MOST, 10000]), (1, [9990001, 10000]), (4, [9995000, 10000]), (5, [9995001, 10000]),
                           (8, [9995000, 10001]), (9, [9995001, 9999])):
            self.assertEqual(nets(f"item a 5\ncash {rule} 10000", MOST), [[0] + want], rule)
            self.assertEqual(nets(f"item a 5\ncash {rule} 10000", MOST - 1), [[-7]], rule)

    def test_round_with_a_great_unit(self):
        # Up to 4999 half of the amount is below 2500, so the tax is 0; at 5000 it's 5000.
        text = "tax t 5000 on\nitem a 5 t\nround 4 5000"
        self.assertEqual(nets(text, 4999, 5000, 9999, 10000), [[0, 4999, 1], [-7], [-7], [0, 5000, 1]])

    def test_each_item_has_its_own_taxes(self):
        text = "tax t 10000 on\ntax u 500 in\nitem a 5\nitem b 5 t\nitem c 5 u"
        found = ask_book(text, [NETS, 1, 10], [NETS, 2, 10], [NETS, 3, 10])
        self.assertEqual(found, [[0, 10, 1], [0, 5, 1], [-6]])

    def test_against_all_amounts(self):
        chance = random.Random(90)
        for turn in range(250):
            book = some_shop(chance, (1, 2, 3, 10, 25))
            top = 60
            paid = [model_paid(book, book["items"][0], amount) for amount in range(top + 30)]
            found = nets(one_form(book), *range(top - 1))
            for gross, answer in enumerate(found):
                want = [0, paid.index(gross), paid.count(gross)] if gross in paid else [-7]
                self.assertEqual(answer, want, (one_form(book), gross))

    def test_great_numbers_at_their_edges(self):
        chance = random.Random(91)
        seen = 0
        for turn in range(400):
            book = some_shop(chance, (1, 50, 1000, 10000))
            amount = chance.choice((0, chance.randint(0, 5000), chance.randint(0, 4000000)))
            item = book["items"][0]
            gross = model_paid(book, item, amount)
            if gross > MOST:
                continue
            answer = nets(one_form(book), gross)[0]
            self.assertEqual(answer[0], 0)
            first, many = answer[1:]
            self.assertIn(amount, range(first, first + many))
            for some, same in ((first, True), (first + many - 1, True), (first - 1, False), (first + many, False)):
                if some >= 0:
                    self.assertEqual(model_paid(book, item, some) == gross, same)
            seen += 1
        self.assertGreater(seen, 250)

    def test_reasonable_time(self):
        text = "tax t 1 on\ntax u 700 on over t\ntax v 9999 on over u\ntax w 3 on over v\nitem a 5 t u v w\n"
        text += "round 8 7\ncash 9 9999\n"
        start = time.monotonic()
        ask(read(text), *[[NETS, 1, MOST - k] for k in range(59)])
        self.assertLess(time.monotonic() - start, 10)


class Refusals(unittest.TestCase):
    book = "tax t 5 in\ntax u 5 on\nitem a 5 t\nitem b 5 u t\nitem c 5\ncash 4 10\n"

    def test_out_of_range_comes_first(self):
        for gross in (-1, MOST + 1, GREAT, -GREAT):
            for item in (0, 1, 3, 4):
                self.assertEqual(ask([NETS, item, gross]), [[-1]])
                self.assertEqual(ask_book(self.book, [NETS, item, gross]), [[-1]])

    def test_no_book_comes_ahead_of_no_item(self):
        for item in (0, 1, GREAT, -GREAT):
            for gross in (0, 5, MOST):
                self.assertEqual(ask([NETS, item, gross]), [[-2]])

    def test_no_item(self):
        for item in (0, 4, -1, GREAT, -GREAT):
            self.assertEqual(ask_book(self.book, [NETS, item, 10], [NETS, item, 5]), [[-3], [-3]])

    def test_a_tax_that_is_in_comes_ahead_of_none(self):
        for item in (1, 2):
            for gross in (0, 5, 10):
                self.assertEqual(ask_book(self.book, [NETS, item, gross]), [[-6]])

    def test_none(self):
        self.assertEqual(ask_book(self.book, [NETS, 3, 5], [NETS, 3, 10]), [[-7], [0, 5, 10]])


if __name__ == "__main__":
    unittest.main()
