"""read, print, names: every line of the grammar, and promise 6: the one form is read as the same book."""

import unittest

from tests.helper import (
    CHEAP, COST, NAMES, PRINT, ask, ask_book, best, bill, books, check, one_form, price, printed, read,
    some_basket, some_text, some_way, taxes,
)

WHOLE = """tax vat 700 in
tax duty 0 on
tax lux 10000 on over duty
item tea 300 lux vat
from tea 2 290
from tea 40 0
free tea 1 of 3
item cup 0
step cup 2 10000000
step cup 3 7
free cup 39 of 40
item pot 10000000 duty
bundle set 1000 cup 2 tea 40
bundle duo 0 pot 1
coupon ten off 1000
coupon few less 10000000 of tea
coupon cut off 10000 cap 5
coupon late less 1 when 10000000
coupon full off 1 of pot cap 10000000 when 1
apart few late
apart ten full
apart ten few
round 9 10000
cash 0 1
by line
"""


class Reading(unittest.TestCase):
    def test_the_one_form_is_printed_as_it_is(self):
        self.assertEqual(printed(WHOLE), WHOLE)

    def test_each_line_of_the_grammar(self):
        base = "tax t 5 on\nitem a 5\nitem b 6\ncoupon c off 5\ncoupon d less 5\n"
        for line in (
            "tax x 0 in", "tax x 10000 on", "tax x 7 on over t", "item x 0", "item x 10000000 t", "from a 2 0",
            "from a 40 10000000", "step b 2 9", "free a 1 of 2", "free b 39 of 40", "bundle x 0 a 1",
            "bundle x 10000000 b 40 a 2", "coupon x off 1", "coupon x off 10000", "coupon x less 1",
            "coupon x less 10000000", "coupon x off 5 of a", "coupon x less 5 cap 1", "coupon x off 5 when 10000000",
            "coupon x off 5 of b cap 9 when 8", "coupon x off 5 of b when 8", "coupon x off 5 cap 9 when 8",
            "apart c d", "round 0 1", "round 9 10000", "cash 3 5", "by line", "by total", "round 4 1", "cash 4 1",
        ):
            with self.subTest(line=line):
                got = printed(base + line)
                self.assertEqual(sorted(got.splitlines()), sorted((base + line).splitlines()))
                self.assertEqual(printed(got), got)

    def test_lines_are_put_in_their_order(self):
        told = "\n".join((
            "by total", "coupon c off 5", "cash 1 2", "item a 5", "tax t 5 on", "coupon d less 7 of a", "item b 6 t",
            "step b 3 4", "free a 1 of 2", "apart d c", "bundle p 9 b 1 a 2", "tax s 6 in", "from a 4 3", "step b 5 2",
            "round 3 4", "item e 1 s t", "bundle q 8 e 1",
        ))
        want = "\n".join((
            "tax t 5 on", "tax s 6 in", "item a 5", "from a 4 3", "free a 1 of 2", "item b 6 t", "step b 3 4",
            "step b 5 2", "item e 1 s t", "bundle p 9 b 1 a 2", "bundle q 8 e 1", "coupon c off 5",
            "coupon d less 7 of a", "apart c d", "round 3 4", "cash 1 2", "by total",
        )) + "\n"
        self.assertEqual(printed(told), want)

    def test_pairs_are_printed_in_the_order_told(self):
        base = "coupon a off 1\ncoupon b off 1\ncoupon c off 1\n"
        self.assertEqual(printed(base + "apart c b\napart c a\napart b a"), base + "apart b c\napart a c\napart a b\n")

    def test_round_cash_and_by_only_as_far_as_told(self):
        self.assertEqual(printed("item a 5"), "item a 5\n")
        self.assertEqual(printed("by total\nitem a 5"), "item a 5\nby total\n")
        self.assertEqual(printed("cash 4 1\nround 4 1"), "round 4 1\ncash 4 1\n")

    def test_blanks_and_lines_without_words(self):
        for text in (
            "item a 5\nitem b 6", "item a 5\nitem b 6\n", "  item   a 5  \n\n   \nitem b    6   ",
            "\n\n\nitem a 5\n\nitem b 6\n\n\n", " \nitem a 5\n \nitem b 6\n ",
        ):
            with self.subTest(text=text):
                self.assertEqual(ask(read(text), [PRINT])[0], [0, 2])
                self.assertEqual(printed(text), "item a 5\nitem b 6\n")

    def test_no_bytes_at_all(self):
        self.assertEqual(ask(read(""), [PRINT], [NAMES], best([])), [[0, 0], [0], [0, 0, 0, 0, 0], [0, 0, 0, 0]])
        self.assertEqual(ask(read("\n \n"), [PRINT], [NAMES]), [[0, 0], [0], [0, 0, 0, 0, 0]])
        empty = ask(read(""), bill([], []), taxes([], []), price([], []))
        self.assertEqual(empty[1:], [[0], [0, 0, 0, 0], [0, 0]])

    def test_names_counts_each_kind(self):
        self.assertEqual(ask_book(WHOLE, [NAMES]), [[0, 3, 3, 2, 5]])
        self.assertEqual(ask_book("tax t 5 in", [NAMES]), [[0, 1, 0, 0, 0]])
        self.assertEqual(ask_book("item t 5", [NAMES]), [[0, 0, 1, 0, 0]])
        self.assertEqual(ask_book("item t 5\nbundle b 5 t 1", [NAMES]), [[0, 0, 1, 1, 0]])
        self.assertEqual(ask_book("coupon t off 5", [NAMES]), [[0, 0, 0, 0, 1]])

    def test_read_answers_how_many_items(self):
        for many in range(9):
            text = "".join(f"item a{k} 5\n" for k in range(many))
            self.assertEqual(ask(read(text)), [[0, many]])

    def test_a_wrong_place_leaves_the_book(self):
        found = ask(read("item a 5"), read("item a 5\nitem b 6\nitem c"), [PRINT], [NAMES], [COST, 1, 2])
        self.assertEqual(found[1], [-5])
        self.assertEqual(bytes(found[2][1:]), b"item a 5\n")
        self.assertEqual(found[3:], [[0, 0, 1, 0, 0], [0, 10, 2]])

    def test_a_wrong_place_makes_no_book(self):
        self.assertEqual(ask(read("item"), [NAMES], [PRINT]), [[-5], [-2], [-2]])

    def test_a_number_that_is_no_byte(self):
        for number in (-1, 256, 1000, -1000000000000000000, 1000000000000000000):
            for text in ([number], list(b"item a 5\n") + [number], [number] + list(b"item")):
                found = ask(read("item z 7"), [0, len(text)] + text, [1, len(text)] + text, [PRINT])
                self.assertEqual(found[1:3], [[-1], [-1]])
                self.assertEqual(bytes(found[3][1:]), b"item z 7\n")
                self.assertEqual(ask([0, len(text)] + text, [1, len(text)] + text, [NAMES]), [[-1], [-1], [-2]])

    def test_a_later_book_takes_the_place(self):
        found = ask(read("item a 5\nround 1 10"), [COST, 1, 1], read("item b 6\nitem c 7"), [COST, 1, 1], [PRINT])
        self.assertEqual(found[:4], [[0, 1], [0, 5, 1], [0, 2], [0, 6, 1]])
        self.assertEqual(bytes(found[4][1:]), b"item b 6\nitem c 7\n")

    def test_texts_of_2000_bytes(self):
        text = WHOLE + " " * (2000 - len(WHOLE))
        self.assertEqual(len(text), 2000)
        self.assertEqual(ask(read(text), check(text), check("x" * 2000), check("\n" * 1999 + "x")),
                         [[0, 3], [0, 0, 0, 0], [0, 1, 1, 1], [0, 2000, 1, 1]])
        self.assertEqual(printed(text), WHOLE)
        self.assertEqual(ask(read(text + " "), check(text + " ")), [[-1], [-1]])


class OneForm(unittest.TestCase):
    def asked(self, book, chance):
        calls = [[NAMES]]
        for number in range(1, len(book["items"]) + 1):
            calls += [[COST, number, chance.randint(0, 40)], [CHEAP, number, chance.randint(0, 40)]]
        for turn in range(6):
            basket = some_basket(chance, book)
            way = some_way(chance, book)
            calls += [bill(basket, way), taxes(basket, way), price(basket, way)]
        return calls + [best(some_basket(chance, book, 5))]

    def test_the_one_form_is_read_as_the_same_book(self):
        for book, chance in books(60, 150):
            text = some_text(book, chance)
            if len(text) > 2000:
                continue
            form = printed(text)
            self.assertEqual(form, one_form(book))
            self.assertEqual(printed(form), form)
            calls = self.asked(book, chance)
            self.assertEqual(ask_book(form, *calls), ask_book(text, *calls), text)


if __name__ == "__main__":
    unittest.main()
