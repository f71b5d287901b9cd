"""What a call asks for: its numbers and rows, looked at, and refused if they aren't so."""

from pricebook.pieces import MOST_PIECES
from pricebook.reading import MOST_MONEY
from pricebook.refusals import NoBook, NoItem, NotToBeGone, NoWeight, OutOfRange, TaxHeld
from pricebook.ways import MOST_TIMES, may_be_gone

MOST_BYTES = 2000
MOST_WEIGHTS = 20


# What the calls of one list work on.
class Desk:
    def __init__(self):
        self.book = None


def in_range(number, least, most):
    if number < least or number > most:
        raise OutOfRange()
    return number


def all_in_range(row, least, most):
    return [in_range(number, least, most) for number in row]


def text_asked(row):
    in_range(len(row), 0, MOST_BYTES)
    return all_in_range(row, 0, 255)


def pieces_asked(number):
    return in_range(number, 0, MOST_PIECES)


def money_asked(number):
    return in_range(number, 0, MOST_MONEY)


def weights_asked(row):
    in_range(len(row), 0, MOST_WEIGHTS)
    weights = all_in_range(row, 0, MOST_MONEY)
    if sum(weights) == 0:
        raise NoWeight()
    return weights


def book_asked(desk):
    if desk.book is None:
        raise NoBook()
    return desk.book


def item_asked(book, number):
    if number < 1 or number > len(book.item_list):
        raise NoItem()
    return book.item_list[number - 1]


def item_without_held_tax(book, number):
    item = item_asked(book, number)
    if not all([book.tax_list[tax - 1].on for tax in item.tax_set]):
        raise TaxHeld()
    return item


def basket_asked(book, row):
    if len(row) != len(book.item_list):
        raise OutOfRange()
    return all_in_range(row, 0, MOST_PIECES)


def counts_asked(book, row):
    if len(row) < len(book.bundle_list):
        raise OutOfRange()
    return all_in_range(row[:len(book.bundle_list)], 0, MOST_TIMES)


# Rising numbers: each is above the one before it.
def coupons_asked(book, row):
    coupons = []
    least = 1
    for number in row[len(book.bundle_list):]:
        coupons.append(in_range(number, least, len(book.coupon_list)))
        least = number + 1
    return coupons


# A basket and a way that may be gone for it: the basket, how often each bundle is taken, the coupons.
def order_asked(book, rows):
    basket = basket_asked(book, rows[0])
    counts = counts_asked(book, rows[1])
    coupons = coupons_asked(book, rows[1])
    if not may_be_gone(book, basket, counts, coupons):
        raise NotToBeGone()
    return (basket, counts, coupons)
