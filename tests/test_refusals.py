"""Refusals of calls with a basket and a way, and their order."""

import unittest

from tests.helper import (
    CHEAP, COST, DROP, GREAT, LOOK, NAMES, NETS, PARTS, PIECES, PRINT, ROUND, add, all_of, ask, ask_book, best, bill,
    check, look, price, read, shares, show, taxes,
)

BOOK = """item a 100
item b 50
bundle p 120 a 1 b 1
bundle q 80 b 2
coupon x off 1000
coupon y less 10 when 200
coupon z less 20
apart z x
"""
WRONG_BASKETS = ([], [1], [1, 1, 1], [-1, 1], [41, 1], [1, -1], [1, 41], [GREAT, 1], [1, -GREAT], [1] * 2000)
WRONG_WAYS = (
    [], [0], [-1, 0], [4, 0], [0, -1], [0, 4], [GREAT, 0], [0, 0, 0], [0, 0, 4], [0, 0, -1], [0, 0, 1, 1], [0, 0, 2, 1],
    [0, 0, 3, 2, 1], [0, 0, 1, 2, 2], [0, 0, 1, 3, 2], [0, 0, 1, 2, 4], [0, 0, GREAT], [0, 0, -GREAT], [0] * 2000,
    [0, 0, 1, 2, 3, 4], [0, 0, 0, 1],
)


def each_on_way(basket, way):
    return [bill(basket, way), taxes(basket, way), price(basket, way), show(basket, way)]


class OutOfRange(unittest.TestCase):
    def test_a_basket_that_is_not_so(self):
        for basket in WRONG_BASKETS:
            calls = each_on_way(basket, [0, 0]) + [best(basket), all_of(basket)]
            self.assertEqual(ask_book(BOOK, *calls), [[-1]] * 6, basket[:5])

    def test_a_way_that_is_not_so(self):
        for way in WRONG_WAYS:
            self.assertEqual(ask_book(BOOK, *each_on_way([40, 40], way)), [[-1]] * 4, way[:9])

    def test_both_edges(self):
        for basket in ([0, 0], [40, 40], [0, 40]):
            calls = each_on_way(basket, [0, 0]) + [best(basket), all_of(basket)]
            self.assertEqual([answer[0] for answer in ask_book(BOOK, *calls)], [0] * 6)
        for way in ([3, 3], [0, 0, 1], [0, 0, 3], [3, 3, 1, 2], [0, 0, 2, 3]):
            self.assertEqual([answer[0] for answer in ask_book(BOOK, *each_on_way([40, 40], way))], [0] * 4)

    def test_behind_no_book(self):
        for basket in WRONG_BASKETS + ([1, 1],):
            self.assertEqual(ask(*each_on_way(basket, [9, 9]), best(basket), all_of(basket)), [[-2]] * 6)
        for way in WRONG_WAYS:
            self.assertEqual(ask(*each_on_way([1, 1], way)), [[-2]] * 4)

    def test_ahead_of_a_way_that_may_not_be_gone(self):
        for call in each_on_way([1, 41], [3, 3]) + each_on_way([1, 1], [3, 3, 1, 1]) + each_on_way([1], [3, 3]):
            self.assertEqual(ask_book(BOOK, call), [[-1]])


class NotToBeGone(unittest.TestCase):
    def expect(self, basket, way, gone):
        answers = ask_book(BOOK, *each_on_way(basket, way))
        self.assertEqual([answer == [-4] for answer in answers], [not gone] * 4, (basket, way))
        self.assertEqual([answer[0] for answer in answers], [0 if gone else -4] * 4, (basket, way))

    def test_bundles_with_more_pieces_than_the_basket(self):
        for basket, way, gone in (
            ([1, 1], [1, 0], True), ([0, 1], [1, 0], False), ([1, 0], [1, 0], False), ([0, 0], [1, 0], False),
            ([2, 1], [2, 0], False), ([3, 3], [3, 0], True), ([3, 2], [3, 0], False), ([0, 2], [0, 1], True),
            ([0, 1], [0, 1], False), ([1, 3], [1, 1], True), ([1, 2], [1, 1], False), ([3, 9], [3, 3], True),
            ([3, 8], [3, 3], False), ([40, 8], [3, 3], False),
        ):
            self.expect(basket, way, gone)

    def test_coupons_that_are_apart(self):
        for coupons, gone in (
            ([1], True), ([3], True), ([1, 3], False), ([1, 2], True), ([2, 3], True), ([1, 2, 3], False),
        ):
            self.expect([5, 5], [0, 0] + coupons, gone)

    def test_lines_before_coupons_below_when(self):
        for basket, way, gone in (
            ([2, 0], [0, 0, 2], True), ([1, 1], [0, 0, 2], False), ([1, 2], [0, 0, 2], True), ([0, 4], [0, 0, 2], True),
            ([1, 2], [1, 0, 2], False), ([1, 2], [0, 1, 2], False), ([2, 1], [1, 0, 2], True), ([0, 0], [0, 0, 2], False),
            ([2, 0], [0, 0, 1, 2], True), ([2, 0], [0, 0, 2, 3], True),
        ):
            self.expect(basket, way, gone)

    def test_a_refusal_changes_nothing(self):
        before = ask_book(BOOK, [PRINT], [NAMES], best([3, 3]))
        wrong = [bill([1], [0, 0]), taxes([1, 1], [9, 9]), price([0, 0], [1, 0]), best([41, 0]), read("x"), [0, 1, 300],
                 show([0, 0], [1, 0]), all_of([]), add("item c 5\nitem a 5"), [NETS, 3, 5], [NETS, 1, -1], [PARTS, 3, 5],
                 [PIECES, 1, 41], shares(5, []), [ROUND, 10, 1, 1, 1], [LOOK, 1, 300]]
        after = ask_book(BOOK, *wrong, [PRINT], [NAMES], best([3, 3]))
        refused = [-1, -1, -4, -1, -5, -1, -4, -1, -5, -3, -1, -3, -1, -8, -1, -1]
        self.assertEqual(after, [[number] for number in refused] + before)


class NoBook(unittest.TestCase):
    def test_calls_that_need_one(self):
        calls = [[PRINT], [NAMES], [COST, 1, 1], [CHEAP, 1, 1], best([]), all_of([]), [NETS, 1, 1], [PARTS, 1, 1],
                 add(""), [DROP], [PIECES, 1, 1], look("")] + each_on_way([], [])
        self.assertEqual(ask(*calls), [[-2]] * 16)

    def test_calls_that_need_none(self):
        calls = [check(""), shares(5, [1]), [ROUND, 0, 1, 5, 1], read("")]
        self.assertEqual(ask(*calls), [[0, 0, 0, 0], [0, 5], [0, 5], [0, 0]])


if __name__ == "__main__":
    unittest.main()
