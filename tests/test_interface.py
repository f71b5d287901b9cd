"""answers: calls and answers in one list, nothing kept, nothing changed; and lists of full size."""

import time
import unittest

from pricebook.bills import answers
from tests.helper import (
    BEST, CHEAP, CHECK, COST, DROP, LOOK, NAMES, NETS, PARTS, PIECES, PRINT, READ, ROUND, add, all_of, as_bytes, ask, best,
    bill, check, look, price, read, row, shares, show, taxes,
)

TEXT = "tax t 1000 on\nitem a 100 t\nbundle p 150 a 2\ncoupon x less 7\n"


def flat(calls):
    return [number for call in calls for number in call]


class Lists(unittest.TestCase):
    def test_each_answer_has_how_many_numbers_ahead(self):
        text = as_bytes(TEXT)
        calls = [3] + [0, len(text)] + text + [3, 4, 1, 3, 5, 1, 0, 4, 2, 1, 4, 1, 41]
        calls += [6, 1, 3, 2, 1, 1] + [7, 1, 3, 1, 0] + [8, 1, 3, 1, 1] + [8, 1, 1, 1, 1] + [9, 1, 2] + [2]
        want = [1, -2] + [2, 0, 1] + [5, 0, 1, 1, 1, 1] + [3, 0, 300, 3] + [3, 0, 0, 0] + [1, -3] + [1, -1]
        # 7 off 100 and 150: 2.8 and 4.2.
        want += [5, 0, 1, 97, 1, 146] + [5, 0, 30, 300, 330, 330] + [2, 0, 275] + [1, -4]
        want += [6, 0, 157, 1, 1, 1, 1] + [1 + len(text), 0] + text
        self.assertEqual(answers(calls), want)

    def test_calls_of_all_kinds_in_one_list(self):
        # 5 pieces of a, of which 4 in bundles: 100 and 300; x takes 7 off.
        shown = as_bytes("has a 5\nuses p 2\nwith x\nline a 98\nline a 295\ntax t 39\nsum 393\ndue 432\npay 432\n")
        more = "item b 10\nfrom b 3 8\nfree b 1 of 4\n"
        pairs = (
            (all_of([1]), [-2]), ([DROP], [-2]), (shares(10, [1, 2]), [0, 3, 7]), ([ROUND, 1, 10, 41, 2], [0, 30]),
            (add("item a 5"), [-2]), (check(TEXT + "x"), [0, 5, 1, 1]), (read("x"), [-5]), (read(TEXT), [0, 1]),
            ([NAMES], [0, 1, 1, 1, 1]), (all_of([5]), [0, 6]), (best([5]), [0, 432, 1, 2, 1, 1]),
            (bill([5], [2, 1]), [0, 1, 98, 1, 295]), (taxes([5], [2, 1]), [0, 39, 393, 432, 432]),
            (price([5], [2, 1]), [0, 432]), (show([5], [2, 1]), [0] + shown), ([LOOK] + row(shown), [0, 0]),
            (look("has a 5\nuses p 3\n"), [0, 3]), (show([5], [3]), [-4]), ([NETS, 1, 110], [0, 100, 1]),
            ([NETS, 1, 5], [-7]), ([PARTS, 1, 100], [0, 100, 110, 1, 10]), ([PIECES, 1, 2], [0, 100, 100]),
            (add(more + "item a 5"), [-5]), ([COST, 2, 4], [-3]), (add(more), [0, 2]), ([COST, 2, 4], [0, 24, 3]),
            ([CHEAP, 2, 3], [0, 3, 24]), ([PIECES, 2, 5], [0, 8, 8, 8, 0, 8]), (all_of([5]), [-1]),
            (all_of([5, 0]), [0, 6]), ([PRINT], [0] + as_bytes("tax t 1000 on\nitem a 100 t\n" + more + TEXT[27:])),
            (add("tax u 5 in\nitem c 5 u"), [0, 3]), ([NETS, 3, 5], [-6]), ([LOOK] + row(shown), [0, 7]),
            (shares(1, []), [-8]), ([DROP], [0]), ([NAMES], [-2]), ([DROP], [-2]), ([LOOK] + row(shown), [-2]),
            (read("item z 3"), [0, 1]), (price([2], []), [0, 6]), ([PIECES, 1, 41], [-1]), ([PIECES, 2, 40], [-3]),
        )
        found = answers(flat([call for call, want in pairs]))
        self.assertEqual(found, flat([[len(want)] + want for call, want in pairs]))
        self.assertEqual({call[0] for call, want in pairs}, set(range(20)))

    def test_answers_are_whole_numbers(self):
        found = answers(flat([read(TEXT), check("x"), [NAMES], [COST, 1, 3], [CHEAP, 1, 3], bill([3], [1, 1]), taxes([3], [1]),
                              price([3], [1]), best([3]), [PRINT], all_of([3]), shares(5, [1, 2]), [ROUND, 4, 2, 5, 3],
                              [NETS, 1, 110], [PARTS, 1, 7], add("item b 5"), [PIECES, 1, 7], show([3, 1], [1, 1]),
                              look("x"), look(""), [DROP], [DROP]]))
        self.assertIs(found.__class__, list)
        self.assertEqual({number.__class__ for number in found}, {int})

    def test_what_was_handed_in_stays(self):
        calls = flat([read(TEXT), bill([3], [1, 1]), best([3]), read("wrong"), taxes([3], [0]), [2], shares(9, [3, 1, 3]),
                      add("from a 2 5"), add("from a 3 5\nx"), all_of([3]), show([3], [1, 1]), look("has a 3\n"), [DROP]])
        before = list(calls)
        answers(calls)
        self.assertEqual(calls, before)

    def test_what_is_given_back_is_new(self):
        calls = flat([read(TEXT), [2], best([3])])
        first = answers(calls)
        want = list(first)
        first.clear()
        self.assertEqual(answers(calls), want)

    def test_nothing_is_kept(self):
        calls = flat([[NAMES], read(TEXT), best([3]), price([3], [0, 1]), add("from a 2 5"), add("x"), show([3], [0, 1]),
                      [DROP], [NAMES], read("item z 5"), [NAMES], add("item y 5"), [PRINT]])
        first = answers(calls)
        self.assertEqual(answers(calls), first)
        self.assertEqual(answers([NAMES]), [1, -2])
        self.assertEqual(answers(calls), first)

    def test_names_of_one_book_are_free_in_the_next(self):
        self.assertEqual(ask(read(TEXT), read(TEXT), check(TEXT), read(TEXT)), [[0, 1], [0, 1], [0, 0, 0, 0], [0, 1]])

    def test_60_calls(self):
        calls = [read(TEXT)] + [[NAMES]] * 30 + [[COST, 1, n] for n in range(29)]
        self.assertEqual(ask(*calls), [[0, 1]] + [[0, 1, 1, 1, 1]] * 30 + [[0, 100 * n, n] for n in range(29)])

    def test_rows_without_numbers(self):
        self.assertEqual(answers([0, 0, 1, 0, 6, 0, 0, 9, 0, 2]), [2, 0, 0, 4, 0, 0, 0, 0, 1, 0, 4, 0, 0, 0, 0, 1, 0])


class Size(unittest.TestCase):
    def full_book(self):
        text = "tax t1 700 in\ntax t2 300 in\ntax t3 500 on\ntax t4 250 on over t3\nby line\n"
        for k in range(1, 9):
            text += f"item i{k} {1000 * k - 1} t1 t2 t3 t4\nfree i{k} 1 of 3\n"
            text += "".join(f"step i{k} {n} {900 - n}\n" for n in (2, 5, 9, 20, 30))
        parts = " ".join(f"i{k} 2" for k in range(1, 9))
        text += "".join(f"bundle b{k} {9999 + k} {parts}\n" for k in (1, 2, 3))
        return text + "".join(f"coupon c{k} off {1000 + k} cap 100000 when 5\n" for k in range(1, 6))

    def test_4_of_best_on_a_full_book(self):
        text = self.full_book()
        text += " " * (2000 - len(text))
        calls = [read(text)] + [best([pieces] * 8) for pieces in (40, 39, 38, 37)]
        start = time.monotonic()
        found = ask(*calls)
        self.assertLess(time.monotonic() - start, 30)
        for pieces, answer in zip((40, 39, 38, 37), found[1:]):
            way = answer[3:6] + answer[7:]
            self.assertEqual(ask(read(text), price([pieces] * 8, way))[1], answer[:2])

    def test_long_rows(self):
        calls = [[CHECK] + row([32] * 1990) for turn in range(8)]
        self.assertEqual(ask(*calls), [[0, 0, 0, 0]] * 8)
        calls = [[BEST] + row([1] * 1990) for turn in range(4)]
        self.assertEqual(ask(*calls), [[-2]] * 4)

    def test_16000_numbers(self):
        calls = [[READ] + row([10] * 1998), add("item a 5" + " " * 1990), look("x\n" * 999)]
        calls += [all_of([5] * 1998), shares(5, [1] * 1997), [CHECK] + row([120] * 1998), show([7] * 1000, [7] * 997)]
        calls += [look("\n" * 1998)]
        self.assertEqual(len(flat(calls)), 16000)
        start = time.monotonic()
        found = ask(*calls)
        self.assertLess(time.monotonic() - start, 10)
        self.assertEqual(found, [[0, 0], [0, 1], [0, 1], [-1], [-1], [0, 1, 1, 1], [-1], [0, 1]])

    def test_60_calls_and_16000_numbers(self):
        text = self.full_book()
        some = [all_of([40] * 8), show([40] * 8, [3, 3, 3, 1, 2, 3, 4, 5]), [NETS, 1, 10000000], [PARTS, 8, 9999999]]
        some += [[PIECES, 8, 40], [CHEAP, 8, 0], add("x" + " " * 1800), [PRINT]]
        calls = [read(text)] + some * 7 + [look(""), shares(7, [5] * 20), [NAMES]]
        # The text that is looked over takes as many numbers as are left.
        calls[57] = look("x" * (16000 - len(flat(calls))))
        numbers = flat(calls)
        self.assertEqual((len(calls), len(numbers)), (60, 16000))
        start = time.monotonic()
        found = ask(*calls)
        self.assertLess(time.monotonic() - start, 30)
        self.assertEqual([found[k] for k in (1, 3, 6, 7, 57, 59)], [[0, 2048], [-6], [0, 0, 0], [-5], [0, 1], [0, 4, 8, 3, 5]])
        self.assertEqual(found[1:9], found[49:57])
        self.assertEqual(found[58], [0] + [1] * 7 + [0] * 13)
        self.assertEqual(answers(numbers), flat([[len(answer)] + answer for answer in found]))

    def test_the_greatest_amounts(self):
        text = "".join(f"item i{k} 10000000\n" for k in range(8)) + "bundle b 10000000 i0 1 i1 1\ncoupon c off 9999\n"
        self.assertEqual(ask(read(text), price([40] * 8, [0]))[1], [0, 3200000000])
        self.assertEqual(ask(read(text), price([40] * 8, [0, 1]))[1], [0, 320000])
        self.assertEqual(ask(read(text), price([40] * 8, [3]))[1], [0, 3200000000 - 30000000])


if __name__ == "__main__":
    unittest.main()
