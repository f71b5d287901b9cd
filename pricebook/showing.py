"""A bill as a text."""

from pricebook.lines import lines_at_end, total_of
from pricebook.taxes import due_of, paid_for, taxes_of_lines
from pricebook.words import line_of


# A row for each of these items, bundles or taxes, with its number.
def named_rows(word, told, numbers):
    return [[word, one.name, str(number)] for one, number in zip(told, numbers)]


def head_rows(book, basket, counts, coupons):
    rows = named_rows("has", book.item_list, basket) + named_rows("uses", book.bundle_list, counts)
    taken = [row for row in rows if row[2] != "0"]
    return taken + [["with", book.coupon_list[number - 1].name] for number in coupons]


def end_rows(book, lines):
    rows = [["line", book.item_list[number - 1].name, str(amount)] for number, amount in lines]
    totals = taxes_of_lines(book, lines)
    due = due_of(book, lines, totals)
    rows.extend(named_rows("tax", book.tax_list, totals))
    return rows + [["sum", str(total_of(lines))], ["due", str(due)], ["pay", str(paid_for(book, due))]]


# The bill's lines, without the bytes 10 that end them.
def bill_lines(book, basket, counts, coupons):
    lines = lines_at_end(book, basket, counts, coupons)
    return [line_of(words) for words in head_rows(book, basket, counts, coupons) + end_rows(book, lines)]
