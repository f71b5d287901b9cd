"""The calls: each takes the desk, its whole numbers and its rows, and gives what is answered behind the 0."""

from pricebook.lines import lines_at_end, lines_before_coupons, total_of
from pricebook.pieces import MOST_PIECES, cheapest_from, cost_of, how_many_paid
from pricebook.printing import one_form
from pricebook.reading import read_book
from pricebook.refusals import NoBook, NoItem, NotToBeGone, OutOfRange, WrongPlace
from pricebook.taxes import due_of, paid_for, price_of_lines, taxes_of_lines
from pricebook.ways import MOST_TIMES, best_way, may_be_gone

MOST_BYTES = 2000


# What the calls of one list work on.
class Desk:
    def __init__(self):
        self.book = None


def in_range(number, least, most):
    if number < least or number > most:
        raise OutOfRange()
    return number


def text_asked(row):
    in_range(len(row), 0, MOST_BYTES)
    return [in_range(byte, 0, 255) for byte in row]


def book_asked(desk):
    if desk.book is None:
        raise NoBook()
    return desk.book


def item_asked(book, number):
    if number < 1 or number > len(book.item_list):
        raise NoItem()
    return book.item_list[number - 1]


def basket_asked(book, row):
    if len(row) != len(book.item_list):
        raise OutOfRange()
    return [in_range(pieces, 0, MOST_PIECES) for pieces in row]


def counts_asked(book, row):
    if len(row) < len(book.bundle_list):
        raise OutOfRange()
    return tuple([in_range(times, 0, MOST_TIMES) for times in row[:len(book.bundle_list)]])


# Rising numbers: each is above the one before it.
def coupons_asked(book, row):
    coupons = []
    least = 1
    for number in row[len(book.bundle_list):]:
        coupons.append(in_range(number, least, len(book.coupon_list)))
        least = number + 1
    return tuple(coupons)


def lines_asked(desk, rows):
    book = book_asked(desk)
    basket = basket_asked(book, rows[0])
    counts = counts_asked(book, rows[1])
    coupons = coupons_asked(book, rows[1])
    if not may_be_gone(book, basket, counts, coupons):
        raise NotToBeGone()
    return lines_at_end(book, lines_before_coupons(book, basket, counts), coupons)


def call_read(desk, numbers, rows):
    desk.book = read_book(text_asked(rows[0]))
    return [len(desk.book.item_list)]


def call_check(desk, numbers, rows):
    text = text_asked(rows[0])
    try:
        read_book(text)
    except WrongPlace as e:
        return [e.line, e.place, e.why]
    return [0, 0, 0]


def call_print(desk, numbers, rows):
    return one_form(book_asked(desk))


def call_names(desk, numbers, rows):
    book = book_asked(desk)
    return [len(book.tax_list), len(book.item_list), len(book.bundle_list), len(book.coupon_list)]


# The pieces are looked at ahead of the book, the item behind it.
def call_cost(desk, numbers, rows):
    pieces = in_range(numbers[1], 0, MOST_PIECES)
    item = item_asked(book_asked(desk), numbers[0])
    return [cost_of(item, pieces), how_many_paid(item, pieces)]


def call_cheap(desk, numbers, rows):
    pieces = in_range(numbers[1], 0, MOST_PIECES)
    return cheapest_from(item_asked(book_asked(desk), numbers[0]), pieces)


def call_bill(desk, numbers, rows):
    answer = []
    for number, amount in lines_asked(desk, rows):
        answer.extend([number, amount])
    return answer


def call_taxes(desk, numbers, rows):
    lines = lines_asked(desk, rows)
    totals = taxes_of_lines(desk.book, lines)
    due = due_of(desk.book, lines, totals)
    return totals + [total_of(lines), due, paid_for(desk.book, due)]


def call_price(desk, numbers, rows):
    lines = lines_asked(desk, rows)
    return [price_of_lines(desk.book, lines)]


def call_best(desk, numbers, rows):
    book = book_asked(desk)
    best = best_way(book, basket_asked(book, rows[0]))
    return [best[0], len(best[1])] + list(best[1]) + [len(best[2])] + list(best[2])


# For each call: what answers it, how many whole numbers it has, how many rows.
CALLS = {
    0: (call_read, 0, 1),
    1: (call_check, 0, 1),
    2: (call_print, 0, 0),
    3: (call_names, 0, 0),
    4: (call_cost, 2, 0),
    5: (call_cheap, 2, 0),
    6: (call_bill, 0, 2),
    7: (call_taxes, 0, 2),
    8: (call_price, 0, 2),
    9: (call_best, 0, 1),
}


def how_many_numbers(call):
    return CALLS[call][1]


def how_many_rows(call):
    return CALLS[call][2]


def answer_call(desk, call, numbers, rows):
    answerer = CALLS[call][0]
    try:
        return [0] + answerer(desk, numbers, rows)
    except OutOfRange:
        return [-1]
    except NoBook:
        return [-2]
    except NoItem:
        return [-3]
    except NotToBeGone:
        return [-4]
    except WrongPlace:
        return [-5]
