"""Reading a book's text, word by word, up to its first wrong place."""

from pricebook.book import Book, Bundle, Coupon, Item, Tax, copied_book
from pricebook.pieces import MOST_PIECES
from pricebook.row import CANNOT_STAND, NOT_TOLD, TOLD_ALREADY, TOO_MANY, Row
from pricebook.words import text_lines, words_of

MOST_TAXES = 4
MOST_ITEMS = 8
MOST_BUNDLES = 3
MOST_COUPONS = 5
MOST_PRICE_LINES = 5
MOST_MONEY = 10000000
MOST_RATE = 10000
MOST_UNIT = 10000


def refuse_one_more(row, told, most):
    if len(told) >= most:
        row.fail(TOO_MANY)


def take_new_name(book, row):
    name = row.take_name()
    if name in book.names:
        row.fail(TOLD_ALREADY)
    return name


# The number of the tax, item, bundle or coupon whose name stands here.
def take_told(book, row, kind):
    entry = book.names.get(row.take_name(), ("", 0))
    if entry[0] != kind:
        row.fail(NOT_TOLD)
    return entry[1]


def read_tax(book, row):
    refuse_one_more(row, book.tax_list, MOST_TAXES)
    name = take_new_name(book, row)
    rate = row.take_number(0, MOST_RATE)
    on = row.take_choice(("in", "on")) == "on"
    over = 0
    if on and row.skip_word("over"):
        over = take_told(book, row, "tax")
        if not book.tax_list[over - 1].on:
            row.fail(NOT_TOLD)
    book.tax_list.append(Tax(name, rate, on, over))
    book.names[name] = ("tax", len(book.tax_list))


def read_item(book, row):
    refuse_one_more(row, book.item_list, MOST_ITEMS)
    name = take_new_name(book, row)
    price = row.take_number(0, MOST_MONEY)
    taxes = []
    while row.has_more():
        tax = take_told(book, row, "tax")
        if tax in taxes:
            row.fail(TOLD_ALREADY)
        taxes.append(tax)
    book.item_list.append(Item(name, price, taxes))
    book.names[name] = ("item", len(book.item_list))


def take_item(book, row):
    return book.item_list[take_told(book, row, "item") - 1]


# An item has lines of one kind alone: own are those of this kind, others those of the other.
def read_price_line(row, own, others):
    if len(others) > 0:
        row.fail_at_first(TOLD_ALREADY)
    if len(own) >= MOST_PRICE_LINES:
        row.fail_at_first(TOO_MANY)
    least = 2
    if len(own) > 0:
        least = own[-1][0] + 1
    pieces = row.take_number(least, MOST_PIECES)
    own.append((pieces, row.take_number(0, MOST_MONEY)))


def read_from(book, row):
    item = take_item(book, row)
    read_price_line(row, item.from_lines, item.step_lines)


def read_step(book, row):
    item = take_item(book, row)
    read_price_line(row, item.step_lines, item.from_lines)


def read_free(book, row):
    item = take_item(book, row)
    if item.free is not None:
        row.fail_at_first(TOLD_ALREADY)
    free = row.take_number(1, MOST_PIECES)
    row.take_choice(("of",))
    item.free = (free, row.take_number(free + 1, MOST_PIECES))


def read_bundle(book, row):
    refuse_one_more(row, book.bundle_list, MOST_BUNDLES)
    name = take_new_name(book, row)
    price = row.take_number(0, MOST_MONEY)
    parts = [take_part(book, row, [])]
    while row.has_more():
        parts.append(take_part(book, row, parts))
    book.bundle_list.append(Bundle(name, price, parts))
    book.names[name] = ("bundle", len(book.bundle_list))


def take_part(book, row, parts):
    item = take_told(book, row, "item")
    if item in [part[0] for part in parts]:
        row.fail(TOLD_ALREADY)
    return (item, row.take_number(1, MOST_PIECES))


def read_coupon(book, row):
    refuse_one_more(row, book.coupon_list, MOST_COUPONS)
    name = take_new_name(book, row)
    kind = row.take_choice(("off", "less"))
    amount = row.take_number(1, MOST_RATE if kind == "off" else MOST_MONEY)
    item = 0
    if row.skip_word("of"):
        item = take_told(book, row, "item")
    cap = take_money_behind(row, "cap")
    when = take_money_behind(row, "when")
    book.coupon_list.append(Coupon(name, kind, amount, item, cap, when))
    book.names[name] = ("coupon", len(book.coupon_list))


def take_money_behind(row, word):
    if row.skip_word(word):
        return row.take_number(1, MOST_MONEY)
    return 0


def read_apart(book, row):
    first = take_told(book, row, "coupon")
    second = take_told(book, row, "coupon")
    pair = (min(first, second), max(first, second))
    if first == second or pair in book.apart_pairs:
        row.fail(TOLD_ALREADY)
    book.apart_pairs.append(pair)


def refuse_second(book, row, setting):
    if setting in book.settings:
        row.fail(TOLD_ALREADY)


def take_rounding(row):
    rule = row.take_number(0, 9)
    return (rule, row.take_number(1, MOST_UNIT))


def read_round(book, row):
    refuse_second(book, row, "round")
    book.settings["round"] = take_rounding(row)


def read_cash(book, row):
    refuse_second(book, row, "cash")
    book.settings["cash"] = take_rounding(row)


def read_by(book, row):
    refuse_second(book, row, "by")
    book.settings["by"] = row.take_choice(("line", "total"))


READERS = {
    "tax": read_tax,
    "item": read_item,
    "from": read_from,
    "step": read_step,
    "free": read_free,
    "bundle": read_bundle,
    "coupon": read_coupon,
    "apart": read_apart,
    "round": read_round,
    "cash": read_cash,
    "by": read_by,
}


def read_line(book, row):
    reader = READERS.get(row.take_word())
    if reader is None:
        row.fail(CANNOT_STAND)
    reader(book, row)
    row.finish()


# A wrong place leaves the book half told: it is not to be used then.
def read_lines(book, text):
    for line, signs in enumerate(text_lines(text), start=1):
        words = words_of(signs)
        if len(words) > 0:
            read_line(book, Row(line, words))


def read_book(text):
    book = Book()
    read_lines(book, text)
    return book


# The book with these lines behind its own; the book itself stays, also if they have a wrong place.
def book_with(book, text):
    longer = copied_book(book)
    read_lines(longer, text)
    return longer
