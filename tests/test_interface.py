"""answers: calls and answers in one list, nothing kept, nothing changed; and lists of full size."""

import time
import unittest

from pricebook.bills import answers
from tests.helper import BEST, COST, NAMES, as_bytes, ask, best, bill, check, price, read, row, taxes

TEXT = "tax t 1000 on\nitem a 100 t\nbundle p 150 a 2\ncoupon x less 7\n"


def flat(calls):
    return [number for call in calls for number in call]


class Lists(unittest.TestCase):
    def test_each_answer_has_how_many_numbers_ahead(self):
        text = as_bytes(TEXT)
        calls = [3] + [0, len(text)] + text + [3, 4, 1, 3, 5, 1, 0, 4, 2, 1, 4, 1, 41]
        calls += [6, 1, 3, 2, 1, 1] + [7, 1, 3, 1, 0] + [8, 1, 3, 1, 1] + [8, 1, 1, 1, 1] + [9, 1, 2] + [2]
        want = [1, -2] + [2, 0, 1] + [5, 0, 1, 1, 1, 1] + [3, 0, 300, 3] + [3, 0, 0, 0] + [1, -3] + [1, -1]
        # 7 off 100 and 150: 2.8 and 4.2.
        want += [5, 0, 1, 97, 1, 146] + [5, 0, 30, 300, 330, 330] + [2, 0, 275] + [1, -4]
        want += [6, 0, 157, 1, 1, 1, 1] + [1 + len(text), 0] + text
        self.assertEqual(answers(calls), want)

    def test_answers_are_whole_numbers(self):
        found = answers(flat([read(TEXT), check("x"), [NAMES], [COST, 1, 3], bill([3], [1, 1]), taxes([3], [1]),
                              price([3], [1]), best([3]), [2]]))
        self.assertIs(found.__class__, list)
        self.assertEqual({number.__class__ for number in found}, {int})

    def test_what_was_handed_in_stays(self):
        calls = flat([read(TEXT), bill([3], [1, 1]), best([3]), read("wrong"), taxes([3], [0]), [2]])
        before = list(calls)
        answers(calls)
        self.assertEqual(calls, before)

    def test_what_is_given_back_is_new(self):
        calls = flat([read(TEXT), [2], best([3])])
        first = answers(calls)
        want = list(first)
        first.clear()
        self.assertEqual(answers(calls), want)

    def test_nothing_is_kept(self):
        calls = flat([[NAMES], read(TEXT), best([3]), price([3], [0, 1]), read("item z 5"), [NAMES]])
        first = answers(calls)
        self.assertEqual(answers(calls), first)
        self.assertEqual(answers([NAMES]), [1, -2])
        self.assertEqual(answers(calls), first)

    def test_names_of_one_book_are_free_in_the_next(self):
        self.assertEqual(ask(read(TEXT), read(TEXT), check(TEXT), read(TEXT)), [[0, 1], [0, 1], [0, 0, 0, 0], [0, 1]])

    def test_60_calls(self):
        calls = [read(TEXT)] + [[NAMES]] * 30 + [[COST, 1, n] for n in range(29)]
        self.assertEqual(ask(*calls), [[0, 1]] + [[0, 1, 1, 1, 1]] * 30 + [[0, 100 * n, n] for n in range(29)])

    def test_rows_without_numbers(self):
        self.assertEqual(answers([0, 0, 1, 0, 6, 0, 0, 9, 0, 2]), [2, 0, 0, 4, 0, 0, 0, 0, 1, 0, 4, 0, 0, 0, 0, 1, 0])


class Size(unittest.TestCase):
    def full_book(self):
        text = "tax t1 700 in\ntax t2 300 in\ntax t3 500 on\ntax t4 250 on over t3\nby line\n"
        for k in range(1, 9):
            text += f"item i{k} {1000 * k - 1} t1 t2 t3 t4\nfree i{k} 1 of 3\n"
            text += "".join(f"step i{k} {n} {900 - n}\n" for n in (2, 5, 9, 20, 30))
        parts = " ".join(f"i{k} 2" for k in range(1, 9))
        text += "".join(f"bundle b{k} {9999 + k} {parts}\n" for k in (1, 2, 3))
        return text + "".join(f"coupon c{k} off {1000 + k} cap 100000 when 5\n" for k in range(1, 6))

    def test_4_of_best_on_a_full_book(self):
        text = self.full_book()
        text += " " * (2000 - len(text))
        calls = [read(text)] + [best([pieces] * 8) for pieces in (40, 39, 38, 37)]
        start = time.monotonic()
        found = ask(*calls)
        self.assertLess(time.monotonic() - start, 30)
        for pieces, answer in zip((40, 39, 38, 37), found[1:]):
            way = answer[3:6] + answer[7:]
            self.assertEqual(ask(read(text), price([pieces] * 8, way))[1], answer[:2])

    def test_60_calls_with_long_rows(self):
        calls = [[1] + row([32] * 1990) for turn in range(8)]
        self.assertEqual(ask(*calls), [[0, 0, 0, 0]] * 8)
        calls = [[BEST] + row([1] * 1990) for turn in range(4)]
        self.assertEqual(ask(*calls), [[-2]] * 4)

    def test_the_greatest_amounts(self):
        text = "".join(f"item i{k} 10000000\n" for k in range(8)) + "bundle b 10000000 i0 1 i1 1\ncoupon c off 9999\n"
        self.assertEqual(ask(read(text), price([40] * 8, [0]))[1], [0, 3200000000])
        self.assertEqual(ask(read(text), price([40] * 8, [0, 1]))[1], [0, 320000])
        self.assertEqual(ask(read(text), price([40] * 8, [3]))[1], [0, 3200000000 - 30000000])


if __name__ == "__main__":
    unittest.main()
