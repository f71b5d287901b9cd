"""look, and promise 4: a bill that's shown is right when looked over; what is found right is what its head is to pay."""

import unittest

from tests.helper import (
    GREAT, LOOK, as_text, ask, ask_book, books, look, model_head, model_look, one_form, price, read, row, show, shown,
    some_basket, some_way,
)
from tests.test_show import BOOK

BILL = shown(BOOK, [2, 3, 3], [1, 1, 1, 2])
LINES = BILL.splitlines()
HEAD = 7
EMPTY = "tax vat 0\ntax eco 0\nsum 0\ndue 0\npay 0\n"


def looked(text, book=BOOK):
    answer = ask_book(book, look(text))[0]
    if answer[0] != 0 or len(answer) != 2:
        raise AssertionError(answer)
    return answer[1]


def text_of(lines):
    return "".join(line + "\n" for line in lines)


def with_line(place, line):
    """The bill with another line at this place, from 1."""
    return text_of(LINES[:place - 1] + [line] + LINES[place:])


def without_line(place):
    return text_of(LINES[:place - 1] + LINES[place:])


class Behind(unittest.TestCase):
    """The lines behind the head."""

    def test_right(self):
        self.assertEqual(len(LINES), 18)
        self.assertEqual(looked(BILL), 0)

    def test_a_number_changed(self):
        for place in range(HEAD + 1, 19):
            words = LINES[place - 1].split(" ")
            for number in (int(words[-1]) + 1, int(words[-1]) - 1, 0, 99999999, "0" + words[-1], "", "x", "-1"):
                line = " ".join(words[:-1] + [str(number)])
                self.assertEqual(looked(with_line(place, line)), place, line)

    def test_a_word_changed(self):
        for place in range(HEAD + 1, 19):
            words = LINES[place - 1].split(" ")
            for first in ("line", "tax", "sum", "due", "pay", "x", "hass", "Has"):
                if first != words[0]:
                    self.assertEqual(looked(with_line(place, " ".join([first] + words[1:]))), place)
            for name in ("tea", "cup", "pot", "vat", "eco", "set", "ten", "nope"):
                if len(words) == 3 and name != words[1]:
                    self.assertEqual(looked(with_line(place, f"{words[0]} {name} {words[2]}")), place)
            self.assertEqual(looked(with_line(place, LINES[place - 1] + " 5")), place)

    def test_a_line_left_out(self):
        for place in range(HEAD + 1, 19):
            self.assertEqual(looked(without_line(place)), place)

    def test_a_line_told_twice(self):
        for place in range(HEAD + 1, 19):
            line = LINES[place - 1]
            self.assertEqual(looked(with_line(place, line + "\n" + line)), place + 1)

    def test_two_lines_in_another_order(self):
        for place in range(HEAD + 1, 18):
            lines = list(LINES)
            lines[place - 1], lines[place] = lines[place], lines[place - 1]
            self.assertEqual(looked(text_of(lines)), place)

    def test_one_more_line_behind_the_end(self):
        for line in ("pay 680", "x", "", " ", "has tea 2", "with big", "line pot 9"):
            self.assertEqual(looked(BILL + line + "\n"), 19, line)
        self.assertEqual(looked(BILL + " "), 19)
        self.assertEqual(looked(BILL + "x"), 19)

    def test_cut_behind_each_line(self):
        for place in range(HEAD, 18):
            self.assertEqual(looked(text_of(LINES[:place])), place + 1)

    def test_no_byte_10_behind_the_last_line(self):
        self.assertEqual(looked(BILL[:-1]), 0)
        self.assertEqual(looked(BILL[:-2]), 18)

    def test_head_lines_behind_the_head(self):
        for line in ("has tea 2", "uses set 1", "with big", "has"):
            self.assertEqual(looked(with_line(9, line)), 9)

    def test_of_two_wrong_lines_the_first(self):
        lines = list(LINES)
        lines[9] = lines[14] = "x"
        self.assertEqual(looked(text_of(lines)), 10)


class Head(unittest.TestCase):
    def expect_wrong(self, place, *lines):
        for line in lines:
            self.assertEqual(looked(with_line(place, line)), place, line)

    def test_has(self):
        self.expect_wrong(2, "has", "has cup", "has cup 3 3", "has cup 3 x", "has 3 cup", "has cup cup", "has 3")
        self.expect_wrong(2, "has nope 3", "has vat 3", "has set 3", "has ten 3", "has Cup 3", "has cups 3", "has has 3")
        self.expect_wrong(2, "has cup 0", "has cup 41", "has cup 03", "has cup 003", "has cup -3", "has cup +3",
                          "has cup 3.0", "has cup x", "has cup 300000000", "has cup 99999999", "has cup \xb3")
        self.expect_wrong(2, "has tea 3", "has tea 2", "has tea 41")

    def test_uses(self):
        self.expect_wrong(5, "uses", "uses duo", "uses duo 1 1", "uses 1 duo", "uses duo duo", "uses 1")
        self.expect_wrong(5, "uses nope 1", "uses vat 1", "uses tea 1", "uses ten 1", "uses Duo 1", "uses uses 1")
        self.expect_wrong(5, "uses duo 0", "uses duo 4", "uses duo 01", "uses duo -1", "uses duo x", "uses duo 10")
        self.expect_wrong(5, "uses set 1", "uses set 2", "uses set 4")

    def test_with(self):
        self.expect_wrong(7, "with", "with few 1", "with few few", "with 2")
        self.expect_wrong(7, "with nope", "with vat", "with tea", "with set", "with Few", "with with")
        self.expect_wrong(7, "with ten")
        # The bill's own line behind it is then not above it.
        for line in ("with few", "with big"):
            self.assertEqual(looked(with_line(6, line)), 7)

    def test_a_coupon_not_above_the_one_before(self):
        book = "item a 5\ncoupon x less 1\ncoupon y less 1\ncoupon z less 1\n"
        for coupons, want in (
            ("x y z", 0), ("x z", 0), ("z", 0), ("x x", 3), ("y x", 3), ("z y x", 3), ("x z y", 4), ("x y y", 4),
            ("y z x", 4),
        ):
            chosen = coupons.split(" ")
            numbers = sorted({"xyz".index(name) + 1 for name in chosen})
            behind = shown(book, [1], numbers).splitlines()[1 + len(numbers):]
            text = text_of(["has a 1"] + [f"with {name}" for name in chosen] + behind)
            self.assertEqual(looked(text, book), want, coupons)

    def test_a_head_that_is_another_one(self):
        # The head is right and its way may be gone, so the lines behind it tell.
        self.assertEqual(looked(with_line(1, "has tea 3")), 8)
        self.assertEqual(looked(with_line(2, "has cup 4")), 9)
        # 7 more make ten take 79 off again, tea and cup stay.
        self.assertEqual(looked(with_line(3, "has pot 4")), 10)
        self.assertEqual(looked(without_line(6)), 7)
        self.assertEqual(looked(without_line(7)), 8)
        self.assertEqual(looked(without_line(4)), 7)
        # Without duo it's 790: ten takes 79 off again, the pots are the first that differ.
        self.assertEqual(looked(without_line(5)), 9)

    def test_a_line_told_twice(self):
        for place in range(1, HEAD + 1):
            line = LINES[place - 1]
            self.assertEqual(looked(with_line(place, line + "\n" + line)), place + 1, line)

    def test_pieces_and_times_at_their_edges(self):
        book = "item a 5\nbundle p 7 a 1\n"
        for pieces, times in ((1, 1), (40, 3), (3, 3), (1, 0)):
            self.assertEqual(looked(shown(book, [pieces], [times]), book), 0)

    def test_a_way_that_may_not_be_gone(self):
        # Too few pieces for the bundles, coupons apart, lines before coupons below when.
        self.assertEqual(looked(without_line(1)), 7)
        self.assertEqual(looked(without_line(2)), 7)
        self.assertEqual(looked(without_line(3)), 7)
        self.assertEqual(looked(with_line(4, "uses set 3")), 8)
        self.assertEqual(looked(with_line(3, "has pot 1")), 8)
        self.assertEqual(looked(with_line(7, "with few\nwith big")), 9)
        self.assertEqual(looked(with_line(7, "with big")), 8)
        self.assertEqual(looked("uses set 1\n"), 2)
        self.assertEqual(looked("uses set 1"), 2)
        self.assertEqual(looked("with big\n" + EMPTY), 2)
        self.assertEqual(looked("has tea 1\nhas cup 1\nuses set 2\nx\ny"), 4)

    def test_a_wrong_line_comes_ahead_of_a_way_that_may_not_be_gone(self):
        self.assertEqual(looked("uses set 1\nhas tea 41\n"), 2)
        self.assertEqual(looked("uses set 1\nwith ten\nwith ten\nx"), 3)

    def test_a_wrong_head_line_comes_ahead_of_unlike_lines(self):
        # The lines in another order are unlike at 1, but the third is no head's line as told.
        self.assertEqual(looked("has cup 1\nhas tea 1\nhas pot 0\n"), 3)
        self.assertEqual(looked("has cup 1\nhas tea 1\nhas pot 1\n"), 1)

    def test_lines_of_the_head_in_another_order(self):
        for order in ((2, 1, 3, 4, 5, 6, 7), (4, 1, 2, 3, 5, 6, 7), (6, 7, 1, 2, 3, 4, 5), (6, 1, 2, 3, 4, 5, 7)):
            self.assertEqual(looked(text_of([LINES[k - 1] for k in order] + LINES[HEAD:])), 1, order)
        self.assertEqual(looked(text_of([LINES[k - 1] for k in (1, 3, 2, 4, 5, 6, 7)] + LINES[HEAD:])), 2)
        self.assertEqual(looked(text_of([LINES[k - 1] for k in (1, 2, 3, 5, 4, 6, 7)] + LINES[HEAD:])), 4)
        self.assertEqual(looked(text_of([LINES[k - 1] for k in (1, 2, 3, 4, 6, 5, 7)] + LINES[HEAD:])), 5)
        # The coupons' own order is the head's matter.
        self.assertEqual(looked(text_of([LINES[k - 1] for k in (2, 1, 3, 4, 5, 7, 6)] + LINES[HEAD:])), 7)

    def test_no_head(self):
        self.assertEqual(looked(EMPTY), 0)
        self.assertEqual(looked(text_of(LINES[HEAD:])), 1)
        self.assertEqual(looked("sum 0\ndue 0\npay 0\n", ""), 0)
        self.assertEqual(looked("sum 0\ndue 0\npay 0", ""), 0)


class Bytes(unittest.TestCase):
    def test_an_empty_text(self):
        self.assertEqual(looked(""), 1)
        self.assertEqual(looked("", ""), 1)

    def test_several_blanks_in_a_line(self):
        # The bill has one blank between words and none at a line's ends.
        for place in range(1, 19):
            line = LINES[place - 1]
            for other in (line.replace(" ", "  "), " " + line, line + " ", line.replace(" ", "   ", 1)):
                self.assertEqual(looked(with_line(place, other)), place, other)

    def test_blanks_do_not_make_a_head_line_another_one(self):
        # As a head's line it is as told, so an earlier line that's unlike is the first wrong one.
        self.assertEqual(looked("has cup 1\n  has   tea  1 \nline tea 119\n"), 1)
        self.assertEqual(looked("has cup 1\n  has   tea  41 \nline tea 119\n"), 2)
        self.assertEqual(looked("  uses  set  1  \n"), 2)

    def test_a_line_without_words(self):
        for place in range(1, 20):
            for line in ("", " ", "   "):
                text = text_of(LINES[:place - 1] + [line] + LINES[place - 1:])
                # Within the head it ends the head: what is ahead of it may tell another bill, or none.
                self.assertEqual(looked(text), place, (place, line))
        self.assertEqual(looked("\n" + EMPTY), 1)
        self.assertEqual(looked("uses set 1\n\nhas tea 41\n"), 2)
        for text in ("\n", " ", "\n\n\n"):
            self.assertEqual(looked(text), 1)
            self.assertEqual(looked(text, ""), 1)

    def test_bytes_that_are_no_letter_digit_blank_or_byte_10(self):
        for byte in list(range(10)) + list(range(11, 32)) + [33, 45, 46, 58, 64, 65, 90, 95, 96, 123, 127, 128, 160, 255]:
            for place in (1, 4, 6, 8, 14, 16, 18):
                start = sum(len(line) + 1 for line in LINES[:place - 1])
                end = start + len(LINES[place - 1])
                for where in (start, start + 3, end - 1):
                    data = list(BILL.encode("ascii"))
                    data[where] = byte
                    want = model_look(BOOK_TOLD, bytes(data).decode("latin-1"))
                    self.assertEqual(looked(data), want, (byte, place, where))
                    self.assertGreater(want, 0)
                self.assertEqual(looked(list(BILL.encode("ascii"))[:end] + [byte] + list(BILL.encode("ascii"))[end:]),
                                 place)
            self.assertEqual(looked([byte]), 1)
            self.assertEqual(looked(list(BILL.encode("ascii")) + [byte]), 19)

    def test_carriage_returns_and_tabs_are_no_blanks(self):
        self.assertEqual(looked(BILL.replace("\n", "\r\n")), 1)
        self.assertEqual(looked(BILL.replace(" ", "\t")), 1)

    def test_names_like_the_words_of_a_bill(self):
        book = "tax sum 1000 on\nitem has 5 sum\nbundle uses 9 has 2\ncoupon with less 1\n"
        text = shown(book, [3], [1, 1])
        self.assertEqual(text, "has has 3\nuses uses 1\nwith with\nline has 5\nline has 8\ntax sum 1\n"
                         "sum 13\ndue 14\npay 14\n")
        self.assertEqual(looked(text, book), 0)


BOOK_TOLD = {
    "taxes": [("vat", 1900, "in", None), ("eco", 500, "on", None)],
    "items": [
        {"name": name, "price": cost, "kind": "from", "taxes": chosen, "lines": [], "free": None}
        for name, cost, chosen in (("tea", 119, [0]), ("cup", 200, [1]), ("pot", 7, []))
    ],
    "bundles": [("set", 250, [(0, 1), (1, 1)]), ("duo", 10, [(2, 2)])],
    "coupons": [
        {"name": name, "kind": kind, "n": n, "item": item, "cap": None, "when": when}
        for name, kind, n, item, when in (
            ("ten", "off", 1000, None, None), ("few", "less", 50, 1, None), ("big", "less", 5, None, 1000))
    ],
    "apart": [(1, 2)], "round": None, "cash": None, "by": None,
}


def some_change(chance, text, names):
    """The text with one thing changed."""
    lines = text.split("\n")
    place = chance.randrange(len(lines))
    where = chance.randint(0, len(text))
    sign = chance.choice(" \n\n 0123456789abixt\xe9T\t")
    kind = chance.randrange(9)
    if kind == 0:
        return text[:where] + sign + text[where:]
    if kind == 1:
        return text[:where] + text[where + 1:]
    if kind == 2:
        return text[:where] + sign + text[where + 1:]
    if kind == 3:
        return "\n".join(lines[:place] + lines[place + 1:])
    if kind == 4:
        lines.insert(chance.randint(0, len(lines)), lines[place])
        return "\n".join(lines)
    if kind == 5:
        lines.insert(chance.randint(0, len(lines)), lines.pop(place))
        return "\n".join(lines)
    if kind == 6:
        first = chance.choice(("has", "uses", "with", "line", "tax", "x"))
        number = chance.choice(("", " 1", " 2", " 3", " 4", " 40", " 41", " 0"))
        lines.insert(chance.randint(0, len(lines)), f"{first} {chance.choice(names)}{number}")
        return "\n".join(lines)
    words = lines[place].split(" ")
    if kind == 7:
        words[chance.randrange(len(words))] = chance.choice(names + ["1", "2", "3", "has", "with", "uses"])
    elif words[-1].isdigit():
        words[-1] = str(max(0, int(words[-1]) + chance.choice((-1, 1))))
    lines[place] = " ".join(words)
    return "\n".join(lines)


def names_of(book):
    pairs = [tax[0] for tax in book["taxes"]] + [bundle[0] for bundle in book["bundles"]]
    return pairs + [one["name"] for kind in ("items", "coupons") for one in book[kind]] + ["nope"]


class Promise4(unittest.TestCase):
    def some_bills(self, seed, how_many):
        for book, chance in books(seed, how_many):
            for turn in range(5):
                basket, way = some_basket(chance, book, chance.choice((5, 40))), some_way(chance, book)
                answer = ask_book(one_form(book), show(basket, way))[0]
                if answer != [-4]:
                    yield book, chance, basket, way, as_text(answer)

    def test_a_bill_that_is_shown_is_right(self):
        seen = 0
        for book, chance, basket, way, text in self.some_bills(130, 150):
            self.assertEqual(looked(text, one_form(book)), 0)
            seen += len(way) > len(book["bundles"]) or any(way)
        self.assertGreater(seen, 100)

    def test_changed_bills_against_the_model(self):
        seen = {}
        for book, chance, basket, way, text in self.some_bills(131, 120):
            changed = []
            for turn in range(12):
                other = text
                for again in range(chance.choice((1, 1, 2, 3))):
                    other = some_change(chance, other, names_of(book))
                changed.append(other)
            found = ask(read(one_form(book)), *[look(other) for other in changed])[1:]
            for other, answer in zip(changed, found):
                want = model_look(book, other)
                self.assertEqual(answer, [0, want], (one_form(book), other))
                seen[want] = seen.get(want, 0) + 1
        self.assertGreater(min(seen.get(number, 0) for number in range(10)), 20)

    def test_what_is_found_right_is_what_its_head_is_to_pay(self):
        seen = 0
        for book, chance, basket, way, text in self.some_bills(132, 120):
            for turn in range(12):
                other = some_change(chance, text, names_of(book))
                if looked(other, one_form(book)) != 0:
                    continue
                heads = [line for line in other.split("\n") if line.split(" ")[0] in ("has", "uses", "with")]
                told = model_head(book, heads)
                again, paid = ask_book(one_form(book), show(*told), price(*told))
                self.assertEqual(as_text(again), other if other.endswith("\n") else other + "\n")
                self.assertEqual(other.rstrip("\n").split("\n")[-1], f"pay {paid[1]}")
                seen += 1
        self.assertGreater(seen, 20)


class Refusals(unittest.TestCase):
    def test_no_byte(self):
        for text in ([-1], [256], [GREAT], [-GREAT], list(BILL.encode("ascii")) + [300], [32] * 1999 + [-1]):
            self.assertEqual(ask([LOOK] + row(text)), [[-1]])
            self.assertEqual(ask_book(BOOK, [LOOK] + row(text)), [[-1]])

    def test_no_book(self):
        for text in ("", BILL, "x" * 2000, [0, 255]):
            self.assertEqual(ask(look(text)), [[-2]])

    def test_texts_of_2000_bytes(self):
        self.assertEqual(looked("x" * 2000), 1)
        self.assertEqual(looked("\n" * 2000), 1)
        self.assertEqual(looked(EMPTY + "\n" * (2000 - len(EMPTY))), 6)
        self.assertEqual(looked("has tea 1\n" * 200), 2)

    def test_nothing_changes(self):
        found = ask_book(BOOK, [2], look(BILL), look("x"), look("uses set 1"), [2])
        self.assertEqual(found[1:4], [[0, 0], [0, 1], [0, 2]])
        self.assertEqual(found[0], found[4])


if __name__ == "__main__":
    unittest.main()
