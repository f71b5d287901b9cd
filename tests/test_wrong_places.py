"""check: the first wrong place, why by why and word by word; read refuses the same texts."""

import unittest

from tests.helper import NAMES, ask, check, read

BASE = """tax vat 700 in
tax duty 500 on
item tea 300 vat
item cup 900
bundle set 1000 tea 1 cup 1
coupon ten off 1000
coupon few less 50
coupon big less 500
"""
QUOTED = (
    "tax in on over item from step free of bundle coupon off less cap when apart round cash by line total"
).split()
NO_NAMES = ["9x", "0", "7", "abcdefghi", "Tea", "tEa", "te-a", "te_a", "\xe4", "a\tb", "a\rb", "a\0b", "\x7f"] + QUOTED
NO_NUMBERS = ["x", "00", "01", "007", "000000000", "100000000", "-1", "+1", "1.0", "1_0", "1a", "\xb2", "in", "1\t"]


def place_of(text):
    answer = ask(check(text))[0]
    if answer[0] != 0 or len(answer) != 4:
        raise AssertionError(answer)
    return tuple(answer[1:])


class WrongPlaces(unittest.TestCase):
    def expect(self, line, place, why, base=BASE):
        """The line behind the base has this wrong place; 0 0: it has none."""
        number = base.count("\n") + 1
        want = (number, place, why) if why else (0, 0, 0)
        with self.subTest(line=line):
            self.assertEqual(place_of(base + line), want)
            refused = ask(read(base + line))[0]
            self.assertEqual(refused == [-5], why != 0)

    def expect_name(self, ahead, behind, place):
        """A new name is asked for at this place."""
        for word in NO_NAMES:
            self.expect(f"{ahead} {word} {behind}", place, 1)
        for word in ("vat", "duty", "tea", "cup", "set", "ten", "few"):
            self.expect(f"{ahead} {word} {behind}", place, 2)
        for word in ("z", "a1234567", "abcdefgh", "z9", "answers", "has", "uses", "sum", "pay", "taxes"):
            self.expect(f"{ahead} {word} {behind}", 0, 0)
        self.expect(ahead, place, 1)

    def expect_told(self, ahead, behind, place, right):
        """A name told as one kind is asked for at this place."""
        for word in NO_NAMES:
            self.expect(f"{ahead} {word} {behind}", place, 1)
        for word in ("vat", "duty", "tea", "cup", "set", "ten", "few", "nope", "abcdefgh"):
            if word not in right:
                self.expect(f"{ahead} {word} {behind}", place, 3)
        for word in right:
            self.expect(f"{ahead} {word} {behind}", 0, 0)

    def expect_number(self, ahead, behind, place, least, most, base=BASE):
        for word in NO_NUMBERS:
            self.expect(f"{ahead} {word} {behind}", place, 1, base)
        for number in (least - 1, most + 1, 99999999):
            if number >= 0:
                self.expect(f"{ahead} {number} {behind}", place, 4, base)
        for number in (least, least + 1, most - 1, most):
            self.expect(f"{ahead} {number} {behind}", 0, 0, base)
        self.expect(ahead, place, 1, base)

    def expect_end(self, line, words, base=BASE):
        """The line is right as it stands; any word more is one too many."""
        self.expect(line, 0, 0, base)
        for word in ("more", "5", "of", "\xff"):
            self.expect(f"{line} {word}", words + 1, 1, base)
            self.expect(f"{line} {word} {word}", words + 1, 1, base)

    def test_first_word(self):
        for word in QUOTED:
            if word not in ("tax", "item", "from", "step", "free", "bundle", "coupon", "apart", "round", "cash", "by"):
                self.expect(word, 1, 1)
        for word in ("x", "tea", "5", "Tax", "TAX", "taxx", "ta", "tax\t", "\ttax", "tax\r", "\0", "#", "\xa0tax"):
            self.expect(word, 1, 1)
            self.expect(f"{word} x 5 in", 1, 1)

    def test_tax(self):
        self.expect_name("tax", "5 in", 2)
        self.expect_number("tax x", "in", 3, 0, 10000)
        self.expect_number("tax x", "on", 3, 0, 10000)
        for word in ("at", "over", "5", "IN", "vat", "inn"):
            self.expect(f"tax x 5 {word}", 4, 1)
        self.expect("tax x 5", 4, 1)
        self.expect_end("tax x 5 in", 4)
        self.expect("tax x 5 in over duty", 5, 1)
        self.expect_end("tax x 5 on", 4)
        self.expect("tax x 5 on duty", 5, 1)
        self.expect("tax x 5 on over", 6, 1)
        self.expect_told("tax x 5 on over", "", 6, ("duty",))
        self.expect("tax x 5 on over x", 6, 3)
        self.expect_end("tax x 5 on over duty", 6)

    def test_tax_over_one_that_is_in(self):
        self.expect("tax x 5 on over vat", 6, 3)
        self.expect("tax x 5 on over vat more", 6, 3)

    def test_item(self):
        self.expect_name("item", "5", 2)
        self.expect_number("item x", "", 3, 0, 10000000)
        self.expect_told("item x 5", "", 4, ("vat", "duty"))
        self.expect("item x 5 vat duty", 0, 0)
        self.expect("item x 5 duty vat", 0, 0)
        self.expect("item x 5 vat vat", 5, 2)
        self.expect("item x 5 vat duty vat", 6, 2)
        self.expect("item x 5 vat duty nope", 6, 3)
        self.expect("item x 5 vat 5", 5, 1)
        self.expect("item x 5 x", 4, 3)

    def test_from_and_step(self):
        for word in ("from", "step"):
            self.expect(word, 2, 1)
            self.expect_told(word, "2 5", 2, ("tea", "cup"))
            self.expect_number(f"{word} tea", "5", 3, 2, 40)
            self.expect_number(f"{word} tea 2", "", 4, 0, 10000000)
            self.expect_end(f"{word} tea 2 5", 4)

    def test_from_and_step_rise(self):
        for word in ("from", "step"):
            base = BASE + f"{word} tea 7 100\n"
            self.expect_number(f"{word} tea", "5", 3, 8, 40, base)
            self.expect_number(f"{word} cup", "5", 3, 2, 40, base)
            base += f"{word} tea 9 100\n"
            self.expect_number(f"{word} tea", "5", 3, 10, 40, base)
            base += f"{word} tea 40 100\n"
            self.expect(f"{word} tea 40 5", 3, 4, base)
            self.expect(f"{word} tea 41 5", 3, 4, base)

    def test_from_where_there_are_step_lines(self):
        for first, second in (("from", "step"), ("step", "from")):
            base = BASE + f"{first} tea 7 100\n"
            for line in ("tea 8 5", "tea", "tea x", "tea 1 x", "tea 8 5 5"):
                self.expect(f"{second} {line}", 1, 2, base)
            self.expect(second, 2, 1, base)
            self.expect(f"{second} 5 8 5", 2, 1, base)
            self.expect(f"{second} nope 8 5", 2, 3, base)
            self.expect(f"{second} vat 8 5", 2, 3, base)
            self.expect(f"{second} cup 8 5", 0, 0, base)

    def test_a_sixth_from_or_step(self):
        for word, other in (("from", "step"), ("step", "from")):
            base = BASE + "".join(f"{word} tea {n} 5\n" for n in (2, 3, 4, 5))
            self.expect(f"{word} tea 6 5", 0, 0, base)
            base += f"{word} tea 6 5\n"
            for line in ("tea 7 5", "tea", "tea x", "tea 3 5", "tea 7 5 5"):
                self.expect(f"{word} {line}", 1, 5, base)
                self.expect(f"{other} {line}", 1, 2, base)
            self.expect(word, 2, 1, base)
            self.expect(f"{word} in 7 5", 2, 1, base)
            self.expect(f"{word} nope 7 5", 2, 3, base)
            self.expect(f"{word} ten 7 5", 2, 3, base)
            self.expect(f"{word} cup 7 5", 0, 0, base)

    def test_free(self):
        self.expect("free", 2, 1)
        self.expect_told("free", "1 of 2", 2, ("tea", "cup"))
        for word in NO_NUMBERS:
            self.expect(f"free tea {word} of 40", 3, 1)
        self.expect("free tea", 3, 1)
        for number, place, why in ((0, 3, 4), (1, 0, 0), (39, 0, 0), (40, 5, 4), (41, 3, 4)):
            self.expect(f"free tea {number} of 40", place, why)
        for word in ("off", "5", "in", "x"):
            self.expect(f"free tea 1 {word} 2", 4, 1)
        self.expect("free tea 1", 4, 1)
        self.expect_number("free tea 1 of", "", 5, 2, 40)
        self.expect_number("free tea 7 of", "", 5, 8, 40)
        for number in (39, 40, 41, 1, 0):
            self.expect(f"free tea 40 of {number}", 5, 4)
        self.expect_end("free tea 1 of 2", 5)

    def test_a_second_free(self):
        base = BASE + "free tea 1 of 2\n"
        for line in ("tea 1 of 3", "tea", "tea x", "tea 1 x", "tea 1 of 3 3"):
            self.expect(f"free {line}", 1, 2, base)
        self.expect("free", 2, 1, base)
        self.expect("free 5 1 of 3", 2, 1, base)
        self.expect("free nope 1 of 3", 2, 3, base)
        self.expect("free cup 1 of 3", 0, 0, base)
        self.expect("from tea 2 5", 0, 0, base)
        self.expect("step tea 2 5", 0, 0, base)

    def test_bundle(self):
        self.expect_name("bundle", "5 tea 1", 2)
        self.expect_number("bundle x", "tea 1", 3, 0, 10000000)
        self.expect("bundle x 5", 4, 1)
        self.expect_told("bundle x 5", "1", 4, ("tea", "cup"))
        self.expect("bundle x 5 x 1", 4, 3)
        self.expect_number("bundle x 5 tea", "", 5, 1, 40)
        self.expect("bundle x 5 tea 1 cup 1", 0, 0)
        self.expect("bundle x 5 tea 1 tea 1", 6, 2)
        self.expect("bundle x 5 tea 1 tea", 6, 2)
        self.expect("bundle x 5 cup 1 tea 1 cup x", 8, 2)
        self.expect("bundle x 5 tea 1 nope 1", 6, 3)
        self.expect("bundle x 5 tea 1 set 1", 6, 3)
        self.expect("bundle x 5 tea 1 7 1", 6, 1)
        self.expect_number("bundle x 5 tea 1 cup", "", 7, 1, 40)
        self.expect("bundle x 5 tea 1 cup 1 of", 8, 1)

    def test_coupon(self):
        self.expect_name("coupon", "off 5", 2)
        self.expect_name("coupon", "less 5", 2)
        self.expect("coupon x", 3, 1)
        for word in ("of", "cap", "5", "x"):
            self.expect(f"coupon x {word} 5", 3, 1)
        self.expect_number("coupon x off", "", 4, 1, 10000)
        self.expect_number("coupon x less", "", 4, 1, 10000000)
        for ahead, words in (("coupon x off 5", 4), ("coupon x less 5", 4)):
            self.expect(f"{ahead} of", words + 2, 1)
            self.expect_told(f"{ahead} of", "", words + 2, ("tea", "cup"))
            self.expect(f"{ahead} of x", words + 2, 3)
            self.expect_number(f"{ahead} cap", "", words + 2, 1, 10000000)
            self.expect_number(f"{ahead} when", "", words + 2, 1, 10000000)
            for word in ("x", "5", "tea", "off", "less", "over"):
                self.expect(f"{ahead} {word} 5", words + 1, 1)

    def test_coupon_with_all_its_words(self):
        self.expect_number("coupon x off 5 of tea cap", "when 5", 8, 1, 10000000)
        self.expect_number("coupon x off 5 of tea cap 5 when", "", 10, 1, 10000000)
        self.expect_number("coupon x off 5 of tea when", "", 8, 1, 10000000)
        self.expect_number("coupon x off 5 cap 5 when", "", 8, 1, 10000000)
        for line, place in (
            ("coupon x off 5 cap 5 of tea", 7), ("coupon x off 5 when 5 cap 5", 7), ("coupon x off 5 of tea of tea", 7),
            ("coupon x off 5 when 5 of tea", 7), ("coupon x off 5 cap 5 cap 5", 7), ("coupon x off 5 when 5 when 5", 7),
            ("coupon x off 5 of tea cap 5 when 5 5", 11), ("coupon x off 5 of tea tea", 7),
        ):
            self.expect(line, place, 1)

    def test_apart(self):
        self.expect("apart", 2, 1)
        self.expect("apart ten", 3, 1)
        self.expect_told("apart", "big", 2, ("ten", "few"))
        self.expect_told("apart big", "", 3, ("ten", "few"))
        self.expect_end("apart ten few", 3)
        self.expect("apart ten ten", 3, 2)
        self.expect("apart few few more", 3, 2)
        for pair in ("ten few", "few ten"):
            base = BASE + f"apart {pair}\n"
            self.expect("apart ten few", 3, 2, base)
            self.expect("apart few ten", 3, 2, base)
            self.expect("apart few ten more", 3, 2, base)
            self.expect("apart few few", 3, 2, base)
            self.expect("apart few", 3, 1, base)
            self.expect("apart few tea", 3, 3, base)
            self.expect("apart few big", 0, 0, base)
            self.expect("apart big ten", 0, 0, base)

    def test_round_and_cash(self):
        for word, other in (("round", "cash"), ("cash", "round")):
            self.expect_number(word, "1", 2, 0, 9)
            self.expect_number(f"{word} 4", "", 3, 1, 10000)
            self.expect_end(f"{word} 4 1", 3)
            base = BASE + f"{word} 4 1\n"
            for line in (word, f"{word} 5 5", f"{word} x", f"{word} 10", f"{word} 4 1 1"):
                self.expect(line, 1, 2, base)
            self.expect(f"{other} 4 1", 0, 0, base)

    def test_by(self):
        self.expect("by", 2, 1)
        for word in ("lines", "sum", "5", "in"):
            self.expect(f"by {word}", 2, 1)
        self.expect_end("by line", 2)
        self.expect_end("by total", 2)
        for told in ("line", "total"):
            for line in ("by", "by line", "by total", "by 5", "by line line"):
                self.expect(line, 1, 2, BASE + f"by {told}\n")

    def test_too_many(self):
        taxes = "".join(f"tax t{k} 5 in\n" for k in range(4))
        items = "".join(f"item i{k} 5\n" for k in range(8))
        bundles = "item tea 5\n" + "".join(f"bundle b{k} 5 tea 1\n" for k in range(3))
        coupons = "".join(f"coupon c{k} off 5\n" for k in range(5))
        for word, base, right in (
            ("tax", taxes, "tax x 5 in"), ("item", items, "item x 5"),
            ("bundle", bundles, "bundle x 5 tea 1"), ("coupon", coupons, "coupon x off 5"),
        ):
            self.expect("", 0, 0, base)
            fewer = base[:base[:-1].rindex("\n") + 1]
            self.expect(right, 0, 0, fewer)
            for line in (right, word, f"{word} 5", f"{word} {word}", f"{word} t0 c0 b0 i0", right + " more"):
                self.expect(line, 1, 5, base)

    def test_first_of_several(self):
        for text, want in (
            ("tax a 5 in\nitem b x\nitem a y\n", (2, 3, 1)),
            ("item a 5\nitem a 10000001 nope", (2, 2, 2)),
            ("item b 10000001 nope", (1, 3, 4)),
            ("item b 5 nope 5", (1, 4, 3)),
            ("item b 5 5 nope", (1, 4, 1)),
            ("x\ny\nz", (1, 1, 1)),
            ("coupon c off 0 of nope cap 0", (1, 4, 4)),
            ("coupon c off 1 of nope cap 0", (1, 6, 3)),
            ("item a 5\ncoupon c off 1 of a cap 0 when x", (2, 8, 4)),
            ("item a 5\nfree a 0 off x", (2, 3, 4)),
            ("round 10 x", (1, 2, 4)),
            ("round x 0", (1, 2, 1)),
        ):
            with self.subTest(text=text):
                self.assertEqual(place_of(text), want)

    def test_names_of_later_lines_are_not_told(self):
        self.assertEqual(place_of("item a 5 vat\ntax vat 5 in\n"), (1, 4, 3))
        self.assertEqual(place_of("from a 2 5\nitem a 5\n"), (1, 2, 3))
        self.assertEqual(place_of("coupon a off 5 of b\nitem b 5\n"), (1, 6, 3))
        self.assertEqual(place_of("coupon a off 5\napart a b\ncoupon b off 5\n"), (2, 3, 3))

    def test_lines_without_words_count(self):
        self.assertEqual(place_of("\n\n   \nx"), (4, 1, 1))
        self.assertEqual(place_of("\n\n   \n  item   a   x  \n\n"), (4, 3, 1))
        self.assertEqual(place_of("item a 5\n\n  item b  \n"), (3, 3, 1))

    def test_texts_without_a_wrong_place(self):
        for text in ("", "\n", " ", "   \n\n  ", "item a 5", "item a 5\n", "  item  a   5  \n\n", BASE, BASE[:-1]):
            with self.subTest(text=text):
                self.assertEqual(place_of(text), (0, 0, 0))

    def test_every_byte_alone(self):
        for byte in range(256):
            want = (0, 0, 0) if byte in (10, 32) else (1, 1, 1)
            self.assertEqual(place_of([byte]), want, byte)

    def test_every_byte_in_a_name(self):
        good = list(range(ord("a"), ord("z") + 1)) + list(range(ord("0"), ord("9") + 1))
        for byte in range(256):
            want = (0, 0, 0) if byte in good else (1, 2, 1)
            if byte in (10, 32):
                want = (1, 3, 1)
            self.assertEqual(place_of(list(b"item a") + [byte] + list(b"b 5")), want, byte)

    def test_a_name_is_told_once_among_all_kinds(self):
        told = {"tax": "tax {} 5 in", "item": "item {} 5", "bundle": "bundle {} 5 one 1", "coupon": "coupon {} off 5"}
        for first in told.values():
            for second in told.values():
                text = "item one 5\n" + first.replace("{}", "same") + "\n" + second.replace("{}", "same")
                self.assertEqual(place_of(text), (3, 2, 2), text)

    def test_check_needs_no_book_and_makes_none(self):
        found = ask(check("item a 5"), [NAMES], read("item a 5\nitem b 5"), check("x"), check(""), [NAMES])
        self.assertEqual(found, [[0, 0, 0, 0], [-2], [0, 2], [0, 1, 1, 1], [0, 0, 0, 0], [0, 0, 2, 0, 0]])


if __name__ == "__main__":
    unittest.main()
