"""add and drop: lines read behind the book's, and promise 6 for a book that was added to."""

import unittest

from tests.helper import (
    ADD, CHEAP, CHECK, COST, DROP, GREAT, LOOK, NAMES, NETS, PARTS, PIECES, PRINT, add, all_of, as_text, ask, best,
    bill, books, check, look, one_form, price, read, row, show, some_basket, some_text, some_way, taxes,
)

BASE = """tax vat 700 in
tax duty 500 on
item tea 300 vat
from tea 5 250
item cup 900
step cup 3 800
free cup 1 of 4
item pot 50
bundle set 1000 tea 1 cup 1
coupon ten off 1000
coupon few less 50
coupon big less 500
apart few ten
"""


def all_told(items, bundles):
    """Calls that tell all of a book with so many items and bundles."""
    basket = [7] * items
    calls = [[PRINT], [NAMES], all_of(basket), best(basket), show(basket, [0] * bundles), taxes(basket, [1] * bundles)]
    for item in range(1, items + 1):
        calls += [[COST, item, 9], [CHEAP, item, 2], [PIECES, item, 40], [PARTS, item, 999], [NETS, item, 999]]
    return calls


def lines_of(many, pattern):
    return "".join(pattern.replace("{}", str(k)) + "\n" for k in range(many))


class Add(unittest.TestCase):
    def expect(self, line, right, base=BASE):
        """The line is right, or has a wrong place, behind the base; as check finds it in one text."""
        with self.subTest(line=line):
            before = ask(read(base), [PRINT])
            found = ask(read(base), add(line), [PRINT], check(base + line))
            self.assertEqual(found[1][0], 0 if right else -5)
            self.assertEqual(found[3] == [0, 0, 0, 0], right)
            if right:
                self.assertEqual(found[2], ask(read(base + line), [PRINT])[1])
            else:
                self.assertEqual(found[1:3], [[-5], before[1]])

    def test_answers_how_many_items_there_are_then(self):
        found = ask(read("item a 5"), add("item b 6\nitem c 7\n"), add("tax t 5 in"), add("item d 8 t"), [NAMES])
        self.assertEqual(found, [[0, 1], [0, 3], [0, 3], [0, 4], [0, 1, 4, 0, 0]])

    def test_the_book_has_these_lines_too(self):
        found = ask(read("item a 5"), add("from a 3 4\nby line"), [PRINT], [COST, 1, 3], add("from a 5 3"), [COST, 1, 5])
        self.assertEqual(as_text(found[2]), "item a 5\nfrom a 3 4\nby line\n")
        self.assertEqual(found[3:], [[0, 12, 3], [0, 1], [0, 15, 5]])

    def test_an_empty_text(self):
        for text in ("", "\n", "   ", "\n \n"):
            found = ask(read(BASE), [PRINT], add(text), [PRINT])
            self.assertEqual(found[2], [0, 3])
            self.assertEqual(found[3], found[1])
        self.assertEqual(ask(read(""), add(""), [NAMES]), [[0, 0], [0, 0], [0, 0, 0, 0, 0]])
        self.assertEqual(ask(read(""), add("item a 5"), [NAMES]), [[0, 0], [0, 1], [0, 0, 1, 0, 0]])

    def test_a_last_line_without_byte_10_is_ended(self):
        found = ask(read("item a 5"), add("item b 6"), add("7"), [PRINT])
        self.assertEqual(found[1:3], [[0, 2], [-5]])
        self.assertEqual(as_text(found[3]), "item a 5\nitem b 6\n")

    def test_names_told_before(self):
        for line, right in (
            ("item x 5 duty vat", True), ("item x 5 tea", False), ("tax x 5 on over duty", True),
            ("tax x 5 on over vat", False), ("bundle x 5 pot 1 tea 2", True), ("bundle x 5 set 1", False),
            ("coupon x off 5 of cup", True), ("coupon x off 5 of ten", False), ("apart few big", True),
            ("apart few tea", False), ("from pot 2 5", True), ("free tea 1 of 2", True), ("item x 5 nope", False),
        ):
            self.expect(line, right)

    def test_a_name_a_second_time(self):
        for name in ("vat", "duty", "tea", "cup", "set", "ten", "few"):
            for line in (f"tax {name} 5 in", f"item {name} 5", f"bundle {name} 5 tea 1", f"coupon {name} off 5"):
                self.expect(line, False)

    def test_from_and_step_go_on_behind_the_last_one(self):
        for line, right in (
            ("from tea 6 200", True), ("from tea 5 200", False), ("from tea 4 200", False), ("from tea 2 200", False),
            ("step cup 4 700", True), ("step cup 3 700", False), ("step cup 2 700", False), ("from tea 40 1", True),
            ("from tea 41 1", False), ("step tea 6 200", False), ("from cup 6 200", False),
            ("from tea 6 5\nfrom tea 6 5", False), ("from tea 6 5\nfrom tea 7 5", True), ("step pot 2 5", True),
        ):
            self.expect(line, right)

    def test_five_from_or_step_lines_over_both_texts(self):
        for word in ("from", "step"):
            for ahead in range(6):
                base = "item a 5\n" + "".join(f"{word} a {2 + k} 5\n" for k in range(ahead))
                behind = "".join(f"{word} a {2 + k} 5\n" for k in range(ahead, 5))
                self.expect(behind, True, base)
                self.expect(behind + f"{word} a 7 5\n", False, base)

    def test_one_free_line_over_both_texts(self):
        self.expect("free tea 1 of 2", True)
        self.expect("free cup 1 of 2", False)
        self.expect("free pot 1 of 2\nfree pot 1 of 2", False)

    def test_so_many_of_each_over_both_texts(self):
        for most, pattern in ((4, "tax x{} 5 in"), (8, "item x{} 5"), (3, "bundle x{} 5 tea 1"), (5, "coupon x{} off 5")):
            for ahead in range(most + 1):
                base = lines_of(ahead, pattern)
                base = base if most == 8 else "item tea 5\n" + base
                behind = lines_of(most, pattern).splitlines(keepends=True)[ahead:]
                self.expect("".join(behind), True, base)
                self.expect("".join(behind) + pattern.replace("{}", "y"), False, base)

    def test_round_cash_and_by_told_already(self):
        for line in ("round 4 1", "cash 4 1", "by total"):
            self.expect(line, True)
            self.expect(line, False, BASE + line + "\n")
            for other in ("round 3 5", "cash 3 5", "by line"):
                self.expect(other, other.split()[0] != line.split()[0], BASE + line + "\n")

    def test_a_pair_apart_told_already(self):
        self.expect("apart ten few", False)
        self.expect("apart few ten", False)
        self.expect("apart ten big\napart big few", True)
        self.expect("apart ten big\napart big ten", False)

    def test_lines_told_there_are_of_use_in_a_later_add(self):
        found = ask(read("item a 5"), add("tax t 5 on"), add("item b 5 t"), add("bundle p 5 b 1"), add("coupon c less 5"),
                    add("coupon d off 5 of b"), add("apart d c"), add("apart c d"), [PRINT])
        self.assertEqual(found[1:8], [[0, 1], [0, 2], [0, 2], [0, 2], [0, 2], [0, 2], [-5]])
        self.assertEqual(as_text(found[8]), "tax t 5 on\nitem a 5\nitem b 5 t\nbundle p 5 b 1\ncoupon c less 5\n"
                         "coupon d off 5 of b\napart c d\n")

    def test_read_behind_add_begins_anew(self):
        found = ask(read("item a 5"), add("item b 5\nround 4 1"), read("item b 7"), add("round 4 1"), [NAMES])
        self.assertEqual(found, [[0, 1], [0, 2], [0, 1], [0, 1], [0, 0, 1, 0, 0]])

    def test_check_is_of_a_text_alone(self):
        found = ask(read(BASE), check("from tea 6 5"), check("item tea 5"), add("x"), check("\nx"))
        self.assertEqual(found[1:], [[0, 1, 2, 3], [0, 0, 0, 0], [-5], [0, 2, 1, 1]])


class WrongAdd(unittest.TestCase):
    right_lines = (
        "from tea 6 1", "step cup 4 1", "step pot 2 1", "free tea 1 of 2", "free pot 1 of 2", "tax x 5 on over duty",
        "item y 5 duty", "bundle z 5 pot 1", "coupon w less 1", "apart ten big", "round 1 100", "cash 1 100", "by line",
    )

    def test_the_book_stays_in_all_that_it_tells(self):
        calls = all_told(3, 1)
        want = ask(read(BASE), *calls)[1:]
        for line in self.right_lines:
            found = ask(read(BASE), add(line + "\nwrong"), *calls)
            self.assertEqual(found[1], [-5], line)
            self.assertEqual(found[2:], want, line)
            self.assertNotEqual(ask(read(BASE), add(line), [PRINT])[2], want[0])

    def test_all_of_them_ahead_of_the_wrong_place(self):
        calls = all_told(3, 1)
        want = ask(read(BASE), *calls)[1:]
        text = "\n".join(self.right_lines)
        self.assertEqual(ask(read(BASE), add(text))[1], [0, 4])
        self.assertEqual(ask(read(BASE), add(text + "\nitem"), *calls)[1:], [[-5]] + want)
        self.assertEqual(ask(read(BASE), add(text + " 5"), *calls)[1:], [[-5]] + want)

    def test_a_refused_add_leaves_names_and_numbers_free(self):
        found = ask(read(BASE), add("item x 5\nfrom tea 6 5\nfree tea 1 of 2\nround 1 5\nx"),
                    add("item x 5\nfrom tea 6 5\nfree tea 1 of 2\nround 1 5"), [PRINT])
        self.assertEqual(found[1:3], [[-5], [0, 4]])
        self.assertEqual(found[3], ask(read(BASE + "item x 5\nfrom tea 6 5\nfree tea 1 of 2\nround 1 5"), [PRINT])[1])

    def test_refusals_in_their_order(self):
        for text in ([-1], [256], [GREAT], [-GREAT], list(b"item a") + [300], [32] * 1999 + [-1]):
            self.assertEqual(ask([ADD] + row(text)), [[-1]])
            found = ask(read("item z 7"), [ADD] + row(text), [PRINT])
            self.assertEqual(found[1], [-1])
            self.assertEqual(as_text(found[2]), "item z 7\n")
        for text in ("", "item a 5", "wrong", "x" * 2000):
            self.assertEqual(ask(add(text)), [[-2]])
        self.assertEqual(ask(read(""), add("wrong"), add("x" * 2000), add(" " * 2000)), [[0, 0], [-5], [-5], [0, 0]])


class Promise6(unittest.TestCase):
    def asked(self, book, chance):
        calls = [[PRINT], [NAMES]]
        for number in range(1, len(book["items"]) + 1):
            calls += [[COST, number, 7], [PARTS, number, 12345], [NETS, number, 12345]]
        for turn in range(4):
            basket, way = some_basket(chance, book), some_way(chance, book)
            calls += [bill(basket, way), taxes(basket, way), show(basket, way), price(basket, way)]
        return calls + [all_of(some_basket(chance, book))]

    def test_a_book_added_to_is_the_book_in_one_text(self):
        for book, chance in books(110, 120):
            lines = some_text(book, chance).split("\n")
            cuts = sorted(chance.randint(0, len(lines)) for turn in range(chance.randint(1, 4)))
            parts = ["\n".join(lines[a:b]) for a, b in zip([0] + cuts, cuts + [len(lines)])]
            calls = self.asked(book, chance)
            found = ask(read(parts[0]), *[add(part) for part in parts[1:]], *calls)[len(parts):]
            self.assertEqual(as_text(found[0]), one_form(book))
            self.assertEqual(ask(read(one_form(book)), *calls)[1:], found)
            self.assertEqual(as_text(ask(read(one_form(book)), [PRINT])[1]), one_form(book))

    def test_a_book_of_more_bytes_than_a_text_may_have(self):
        items = "".join(f"item abcdefg{k} 10000000\n" for k in range(8))
        steps = ["".join(f"step abcdefg{k} {n} 10000000\n" for n in (30, 31, 32, 33, 34)) for k in range(8)]
        frees = "".join(f"free abcdefg{k} 10 of 40\n" for k in range(8))
        bundles = "".join(f"bundle bcdefgh{k} 10000000 " + " ".join(f"abcdefg{n} 40" for n in range(8)) + "\n"
                          for k in range(3))
        coupons = "".join(f"coupon cdefghi{k} less 10000000 of abcdefg{k} cap 10000000 when 10000000\n" for k in range(5))
        found = ask(read(items), *[add(step) for step in steps], add(frees), add(bundles + coupons), [PRINT], [NAMES])
        self.assertEqual(found[:11], [[0, 8]] * 11)
        want = "".join(f"item abcdefg{k} 10000000\n" + steps[k] + f"free abcdefg{k} 10 of 40\n" for k in range(8))
        self.assertEqual(as_text(found[11]), want + bundles + coupons)
        self.assertGreater(len(found[11]), 2000)
        self.assertEqual(found[12], [0, 0, 8, 3, 5])


class Drop(unittest.TestCase):
    needing = [
        [PRINT], [NAMES], [COST, 1, 1], [CHEAP, 1, 1], bill([1], []), taxes([1], []), price([1], []), best([1]),
        all_of([1]), [NETS, 1, 1], [PARTS, 1, 1], add("item b 5"), [DROP], [PIECES, 1, 1], show([1], []), look(""),
    ]

    def test_afterwards_there_is_no_book(self):
        for call in self.needing:
            self.assertEqual(ask(read("item a 5"), [DROP], call), [[0, 1], [0], [-2]], call)
        self.assertEqual(ask(read("item a 5"), [DROP], *self.needing), [[0, 1], [0]] + [[-2]] * 16)

    def test_these_calls_are_answered_with_a_book(self):
        for call in self.needing:
            self.assertEqual(ask(read("item a 5"), call)[1][0], 0, call)

    def test_without_a_book(self):
        self.assertEqual(ask([DROP], [DROP]), [[-2], [-2]])
        self.assertEqual(ask(read("wrong"), [DROP]), [[-5], [-2]])

    def test_a_second_drop(self):
        self.assertEqual(ask(read(""), [DROP], [DROP], [NAMES]), [[0, 0], [0], [-2], [-2]])

    def test_read_behind_it(self):
        found = ask(read("item a 5\nround 1 5"), [DROP], read("item a 6\nround 1 7\nitem b 5"), [PRINT], [DROP], [NAMES])
        self.assertEqual([found[1], found[2], found[4], found[5]], [[0], [0, 2], [0], [-2]])
        self.assertEqual(as_text(found[3]), "item a 6\nitem b 5\nround 1 7\n")

    def test_what_needs_no_book_is_answered_still(self):
        found = ask(read("item a 5"), [DROP], check("x"), [11, 5, 1, 1], [12, 0, 1, 7, 2], read("x"), [NAMES])
        self.assertEqual(found[2:], [[0, 1, 1, 1], [0, 5], [0, 3], [-5], [-2]])

    def test_out_of_range_comes_ahead_of_no_book(self):
        calls = [[COST, 1, 41], [CHEAP, 1, -1], [NETS, 1, -1], [PARTS, 1, 10000001], [PIECES, 1, 41], [ADD, 1, 256],
                 [LOOK, 1, -1], [CHECK, 1, -1]]
        self.assertEqual(ask(read("item a 5"), [DROP], *calls)[2:], [[-1]] * 8)


if __name__ == "__main__":
    unittest.main()
