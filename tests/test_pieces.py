"""cost, cheap and pieces: what pieces cost, at every edge."""

import unittest

from tests.helper import CHEAP, COST, PIECES, ask, ask_book, books, model_cost, model_pieces, one_form, read


def costs(text, first=0, last=40):
    return [tuple(answer[1:]) for answer in ask_book(text, *[[COST, 1, n] for n in range(first, last + 1)])]


def cheapest(text, n):
    return tuple(ask_book(text, [CHEAP, 1, n])[0][1:])


class Costs(unittest.TestCase):
    def test_a_price_alone(self):
        self.assertEqual(costs("item a 7"), [(7 * n, n) for n in range(41)])
        self.assertEqual(costs("item a 0"), [(0, n) for n in range(41)])
        self.assertEqual(costs("item a 10000000")[40], (400000000, 40))

    def test_from_lines_hold_for_all_pieces(self):
        text = "item a 10\nfrom a 3 8\nfrom a 5 9\nfrom a 40 1"
        want = [10 * n for n in (0, 1, 2)] + [24, 32] + [9 * n for n in range(5, 40)] + [40]
        self.assertEqual(costs(text), [(cost, n) for n, cost in enumerate(want)])

    def test_step_lines_hold_from_their_piece_on(self):
        text = "item a 10\nstep a 3 8\nstep a 5 9\nstep a 40 1"
        each = [10, 10, 8, 8] + [9] * 35 + [1]
        self.assertEqual(costs(text), [(sum(each[:n]), n) for n in range(41)])

    def test_from_2_is_reached_by_2_pieces(self):
        self.assertEqual(costs("item a 10\nfrom a 2 6", 0, 3), [(0, 0), (10, 1), (12, 2), (18, 3)])
        self.assertEqual(costs("item a 10\nstep a 2 6", 0, 3), [(0, 0), (10, 1), (16, 2), (22, 3)])

    def test_free_pieces(self):
        paid = [0, 1, 2, 2, 3, 4, 4, 5, 6, 6, 7]
        self.assertEqual(costs("item a 10\nfree a 1 of 3", 0, 10), [(10 * p, p) for p in paid])
        paid = [0, 1, 2, 3, 4, 2, 3, 4, 5, 6, 4]
        self.assertEqual(costs("item a 10\nfree a 3 of 5", 0, 10), [(10 * p, p) for p in paid])

    def test_free_in_rows_of_40(self):
        self.assertEqual(costs("item a 10\nfree a 39 of 40", 38, 40), [(380, 38), (390, 39), (10, 1)])
        self.assertEqual(costs("item a 10\nfree a 1 of 40", 38, 40), [(380, 38), (390, 39), (390, 39)])

    def test_free_with_from_counts_paid_pieces(self):
        # 3 pieces, 2 paid: the from line of 3 is not reached before the 4th piece.
        text = "item a 10\nfrom a 3 6\nfree a 1 of 3"
        self.assertEqual(costs(text, 0, 6), [(0, 0), (10, 1), (20, 2), (20, 2), (18, 3), (24, 4), (24, 4)])

    def test_free_with_step_counts_paid_pieces(self):
        text = "item a 10\nstep a 3 6\nfree a 1 of 3"
        self.assertEqual(costs(text, 0, 6), [(0, 0), (10, 1), (20, 2), (20, 2), (26, 3), (32, 4), (32, 4)])

    def test_each_item_has_its_own(self):
        text = "item a 10\nitem b 20\nfrom b 2 15\nfree a 1 of 2"
        found = ask_book(text, [COST, 1, 2], [COST, 2, 2], [CHEAP, 1, 1], [CHEAP, 2, 1])
        self.assertEqual(found, [[0, 10, 1], [0, 30, 2], [0, 1, 10], [0, 1, 20]])

    def test_against_the_model(self):
        for book, chance in books(40, 60):
            for number, item in enumerate(book["items"], start=1):
                found = ask_book(one_form(book), *[[COST, number, n] for n in range(41)])
                self.assertEqual(found, [[0] + model_cost(item, n) for n in range(41)])


class Cheap(unittest.TestCase):
    def test_more_pieces_cost_no_less(self):
        self.assertEqual(cheapest("item a 10", 0), (0, 0))
        self.assertEqual(cheapest("item a 10", 7), (7, 70))
        self.assertEqual(cheapest("item a 10", 40), (40, 400))

    def test_more_pieces_cost_less(self):
        text = "item a 10\nfrom a 5 6"
        self.assertEqual([cheapest(text, n) for n in (0, 2, 3, 4, 5)], [(0, 0), (2, 20), (3, 30), (5, 30), (5, 30)])
        self.assertEqual(cheapest("item a 10\nfrom a 5 6", 6), (6, 36))
        self.assertEqual(cheapest("item a 10\nfrom a 40 0", 1), (40, 0))
        self.assertEqual(cheapest("item a 10\nfrom a 39 0", 1), (39, 0))
        self.assertEqual(cheapest("item a 10\nfree a 5 of 7", 4), (7, 20))

    def test_no_more_than_40_pieces_are_looked_at(self):
        # 40 pieces are 39 paid ones; 41 would be 40 and cost nothing.
        self.assertEqual(cheapest("item a 10\nfrom a 40 0\nfree a 1 of 40", 39), (39, 390))

    def test_of_equal_ones_the_least(self):
        self.assertEqual(cheapest("item a 0", 3), (3, 0))
        self.assertEqual(cheapest("item a 10\nfree a 1 of 3", 2), (2, 20))
        self.assertEqual(cheapest("item a 10\nfrom a 5 6", 3), (3, 30))
        self.assertEqual(cheapest("item a 10\nstep a 2 0", 1), (1, 10))

    def test_against_all_numbers(self):
        for book, chance in books(41, 40):
            for number, item in enumerate(book["items"], start=1):
                calls = [[CHEAP, number, n] for n in range(41)]
                want = [min((model_cost(item, m)[0], m) for m in range(n, 41)) for n in range(41)]
                self.assertEqual(ask_book(one_form(book), *calls), [[0, m, cost] for cost, m in want])


def each(text, n):
    answer = ask_book(text, [PIECES, 1, n])[0]
    if answer[0] != 0:
        raise AssertionError(answer)
    return answer[1:]


class Pieces(unittest.TestCase):
    def test_a_price_alone(self):
        self.assertEqual([each("item a 7", n) for n in (0, 1, 3)], [[], [7], [7, 7, 7]])
        self.assertEqual(each("item a 10000000", 40), [10000000] * 40)

    def test_free(self):
        text = "item a 10\nfree a 1 of 3"
        wants = [[], [10], [10, 10], [10, 10, 0], [10, 10, 0, 10], [10, 10, 0, 10, 10], [10, 10, 0, 10, 10, 0]]
        self.assertEqual([each(text, n) for n in range(7)], wants)
        text = "item a 10\nfree a 3 of 5"
        self.assertEqual(each(text, 4), [10] * 4)
        self.assertEqual(each(text, 5), [10, 10, 0, 0, 0])
        self.assertEqual(each(text, 9), [10, 10, 0, 0, 0] + [10] * 4)
        self.assertEqual(each(text, 10), [10, 10, 0, 0, 0] * 2)
        self.assertEqual(each("item a 10\nfree a 39 of 40", 39), [10] * 39)
        self.assertEqual(each("item a 10\nfree a 39 of 40", 40), [10] + [0] * 39)
        self.assertEqual(each("item a 10\nfree a 1 of 40", 40), [10] * 39 + [0])

    def test_from(self):
        text = "item a 10\nfrom a 3 8\nfrom a 5 9"
        self.assertEqual([each(text, n) for n in (2, 3, 4, 5)], [[10] * 2, [8] * 3, [8] * 4, [9] * 5])

    def test_step(self):
        text = "item a 10\nstep a 3 8\nstep a 5 9\nstep a 40 1"
        self.assertEqual(each(text, 2), [10, 10])
        self.assertEqual(each(text, 6), [10, 10, 8, 8, 9, 9])
        self.assertEqual(each(text, 40), [10, 10, 8, 8] + [9] * 35 + [1])

    def test_free_with_from(self):
        # The from line is reached by 3 paid pieces, so by 4 pieces.
        text = "item a 10\nfrom a 3 6\nfree a 1 of 3"
        self.assertEqual(each(text, 3), [10, 10, 0])
        self.assertEqual(each(text, 4), [6, 6, 0, 6])
        self.assertEqual(each(text, 6), [6, 6, 0, 6, 6, 0])

    def test_free_with_step(self):
        text = "item a 10\nstep a 3 6\nfree a 1 of 3"
        self.assertEqual(each(text, 3), [10, 10, 0])
        self.assertEqual(each(text, 7), [10, 10, 0, 6, 6, 0, 6])

    def test_a_price_of_0_is_told_as_0(self):
        self.assertEqual(each("item a 0\nstep a 2 5\nfree a 1 of 3", 4), [0, 5, 0, 5])

    def test_together_they_are_what_cost_answers(self):
        for book, chance in books(42, 60):
            for number in range(1, len(book["items"]) + 1):
                found = ask_book(one_form(book), *[[PIECES, number, n] for n in range(41)])
                costs_told = ask_book(one_form(book), *[[COST, number, n] for n in range(41)])
                self.assertEqual([len(answer) for answer in found], list(range(1, 42)))
                self.assertEqual([sum(answer) for answer in found], [answer[1] for answer in costs_told])

    def test_against_the_model(self):
        for book, chance in books(43, 60):
            for number, item in enumerate(book["items"], start=1):
                found = ask_book(one_form(book), *[[PIECES, number, n] for n in range(41)])
                self.assertEqual(found, [[0] + [cost or 0 for cost in model_pieces(item, n)] for n in range(41)])


class Refusals(unittest.TestCase):
    def test_pieces_out_of_range_come_first(self):
        for call in (COST, CHEAP, PIECES):
            for pieces in (-1, 41, -1000000000000000000, 1000000000000000000):
                for item in (1, 0, 2, -1):
                    found = ask([call, item, pieces], read("item a 5"), [call, item, pieces])
                    self.assertEqual([found[0], found[2]], [[-1], [-1]])

    def test_no_book_comes_ahead_of_no_item(self):
        for call in (COST, CHEAP, PIECES):
            for item in (1, 0, 2, -1, 1000000000000000000):
                self.assertEqual(ask([call, item, 5]), [[-2]])

    def test_no_item_of_that_number(self):
        for call in (COST, CHEAP, PIECES):
            for item in (0, -1, 3, 8, 1000000000000000000, -1000000000000000000):
                self.assertEqual(ask_book("item a 5\nitem b 5", [call, item, 5]), [[-3]])
            self.assertEqual(ask_book("tax t 5 in\ncoupon c off 5", [call, 1, 5]), [[-3]])
            for item in (1, 2):
                self.assertEqual(ask_book("item a 5\nitem b 5", [call, item, 5])[0][0], 0)

    def test_both_edges_of_pieces(self):
        self.assertEqual(ask_book("item a 5", [COST, 1, 0], [COST, 1, 40]), [[0, 0, 0], [0, 200, 40]])
        self.assertEqual(ask_book("item a 5", [CHEAP, 1, 0], [CHEAP, 1, 40]), [[0, 0, 0], [0, 40, 200]])
        self.assertEqual(ask_book("item a 5", [PIECES, 1, 0], [PIECES, 1, 40]), [[0], [0] + [5] * 40])


if __name__ == "__main__":
    unittest.main()
