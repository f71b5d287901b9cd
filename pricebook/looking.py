"""A bill as a text, looked over."""

from pricebook.pieces import MOST_PIECES
from pricebook.reading import take_told
from pricebook.refusals import WrongPlace
from pricebook.row import TOLD_ALREADY, Row
from pricebook.showing import bill_lines
from pricebook.ways import MOST_TIMES, may_be_gone
from pricebook.words import text_lines, words_of


# What a bill's first lines tell: a basket and a way. height is how many lines these are.
class Head:
    def __init__(self, book):
        self.basket = [0 for item in book.item_list]
        self.counts = [0 for bundle in book.bundle_list]
        self.coupons = []
        self.height = 0


# numbers has a 0 for each item or bundle that isn't told yet.
def take_count(row, number, numbers, most):
    if numbers[number - 1] > 0:
        row.fail(TOLD_ALREADY)
    numbers[number - 1] = row.take_number(1, most)


def read_has(book, head, row):
    take_count(row, take_told(book, row, "item"), head.basket, MOST_PIECES)


def read_uses(book, head, row):
    take_count(row, take_told(book, row, "bundle"), head.counts, MOST_TIMES)


def read_with(book, head, row):
    number = take_told(book, row, "coupon")
    if number <= max(head.coupons, default=0):
        row.fail(TOLD_ALREADY)
    head.coupons.append(number)


HEAD_READERS = {
    "has": read_has,
    "uses": read_uses,
    "with": read_with,
}


# The lines up to the first that doesn't begin as a head's line; a wrong one is raised.
def read_head(book, lines):
    head = Head(book)
    for line in lines:
        words = words_of(line)
        if len(words) == 0 or words[0] not in HEAD_READERS:
            break
        head.height += 1
        row = Row(head.height, words)
        reader = HEAD_READERS[row.take_word()]
        reader(book, head, row)
        row.finish()
    return head


# The number of the first line that's unlike, lacking or too many; 0 if there's none.
def first_unlike(lines, right):
    for place in range(max(len(lines), len(right))):
        if lines[place:place + 1] != right[place:place + 1]:
            return place + 1
    return 0


def first_wrong_line(book, text):
    lines = text_lines(text)
    try:
        head = read_head(book, lines)
    except WrongPlace as e:
        return e.line
    if not may_be_gone(book, head.basket, head.counts, head.coupons):
        return head.height + 1
    return first_unlike(lines, bill_lines(book, head.basket, head.counts, head.coupons))
