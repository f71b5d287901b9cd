"""The calls: each takes the desk, its whole numbers and its rows, and gives what is answered behind the 0."""

from pricebook.arithmetic import rounded, share_out
from pricebook.asking import (
    basket_asked, book_asked, in_range, item_asked, item_without_held_tax, money_asked, order_asked, pieces_asked,
    text_asked, weights_asked,
)
from pricebook.lines import lines_at_end, total_of
from pricebook.looking import first_wrong_line
from pricebook.nets import amounts_paid_with
from pricebook.pieces import cheapest_from, cost_of, how_many_paid, piece_costs
from pricebook.printing import one_form
from pricebook.reading import MOST_UNIT, book_with, read_book
from pricebook.refusals import (
    NoAmount, NoBook, NoItem, NotToBeGone, NoWeight, OutOfRange, TaxHeld, WrongPlace,
)
from pricebook.showing import bill_lines
from pricebook.taxes import due_of, paid_for, paid_for_amount, price_of_lines, taxes_of_amount, taxes_of_lines
from pricebook.ways import best_way, how_many_ways
from pricebook.words import bytes_of_lines

MOST_RULE = 9
MOST_ROUNDED = 1000000000000
MOST_DIVISOR = 1000000


def lines_asked(book, rows):
    order = order_asked(book, rows)
    return lines_at_end(book, order[0], order[1], order[2])


def call_read(desk, numbers, rows):
    desk.book = read_book(text_asked(rows[0]))
    return [len(desk.book.item_list)]


def call_check(desk, numbers, rows):
    text = text_asked(rows[0])
    try:
        read_book(text)
    except WrongPlace as e:
        return [e.line, e.place, e.why]
    return [0, 0, 0]


def call_print(desk, numbers, rows):
    return one_form(book_asked(desk))


def call_names(desk, numbers, rows):
    book = book_asked(desk)
    return [len(book.tax_list), len(book.item_list), len(book.bundle_list), len(book.coupon_list)]


# The pieces are looked at ahead of the book, the item behind it.
def call_cost(desk, numbers, rows):
    pieces = pieces_asked(numbers[1])
    item = item_asked(book_asked(desk), numbers[0])
    return [cost_of(item, pieces), how_many_paid(item, pieces)]


def call_cheap(desk, numbers, rows):
    pieces = pieces_asked(numbers[1])
    return cheapest_from(item_asked(book_asked(desk), numbers[0]), pieces)


def call_bill(desk, numbers, rows):
    answer = []
    for number, amount in lines_asked(book_asked(desk), rows):
        answer.extend([number, amount])
    return answer


def call_taxes(desk, numbers, rows):
    book = book_asked(desk)
    lines = lines_asked(book, rows)
    totals = taxes_of_lines(book, lines)
    due = due_of(book, lines, totals)
    return totals + [total_of(lines), due, paid_for(book, due)]


def call_price(desk, numbers, rows):
    book = book_asked(desk)
    return [price_of_lines(book, lines_asked(book, rows))]


def call_best(desk, numbers, rows):
    book = book_asked(desk)
    best = best_way(book, basket_asked(book, rows[0]))
    return [best[0], len(best[1])] + list(best[1]) + [len(best[2])] + list(best[2])


def call_all(desk, numbers, rows):
    book = book_asked(desk)
    return [how_many_ways(book, basket_asked(book, rows[0]))]


def call_shares(desk, numbers, rows):
    whole = money_asked(numbers[0])
    return share_out(whole, weights_asked(rows[0]))


def call_round(desk, numbers, rows):
    rounding = (in_range(numbers[0], 0, MOST_RULE), in_range(numbers[1], 1, MOST_UNIT))
    number = in_range(numbers[2], 0, MOST_ROUNDED)
    return [rounded(rounding, number, in_range(numbers[3], 1, MOST_DIVISOR))]


def call_nets(desk, numbers, rows):
    gross = money_asked(numbers[1])
    book = book_asked(desk)
    found = amounts_paid_with(book, item_without_held_tax(book, numbers[0]), gross)
    if found[1] == 0:
        raise NoAmount()
    return found


def call_parts(desk, numbers, rows):
    amount = money_asked(numbers[1])
    book = book_asked(desk)
    item = item_asked(book, numbers[0])
    parts = taxes_of_amount(book, amount, item.tax_set)
    answer = [parts[0], paid_for_amount(book, item, amount)]
    for number in item.tax_set:
        answer.extend([number, parts[1][number]])
    return answer


def call_add(desk, numbers, rows):
    text = text_asked(rows[0])
    desk.book = book_with(book_asked(desk), text)
    return [len(desk.book.item_list)]


def call_drop(desk, numbers, rows):
    book_asked(desk)
    desk.book = None
    return []


def call_pieces(desk, numbers, rows):
    pieces = pieces_asked(numbers[1])
    return piece_costs(item_asked(book_asked(desk), numbers[0]), pieces)


def call_show(desk, numbers, rows):
    book = book_asked(desk)
    order = order_asked(book, rows)
    return bytes_of_lines(bill_lines(book, order[0], order[1], order[2]))


def call_look(desk, numbers, rows):
    text = text_asked(rows[0])
    return [first_wrong_line(book_asked(desk), text)]


# For each call: what answers it, how many whole numbers it has, how many rows.
CALLS = {
    0: (call_read, 0, 1),
    1: (call_check, 0, 1),
    2: (call_print, 0, 0),
    3: (call_names, 0, 0),
    4: (call_cost, 2, 0),
    5: (call_cheap, 2, 0),
    6: (call_bill, 0, 2),
    7: (call_taxes, 0, 2),
    8: (call_price, 0, 2),
    9: (call_best, 0, 1),
    10: (call_all, 0, 1),
    11: (call_shares, 1, 1),
    12: (call_round, 4, 0),
    13: (call_nets, 2, 0),
    14: (call_parts, 2, 0),
    15: (call_add, 0, 1),
    16: (call_drop, 0, 0),
    17: (call_pieces, 2, 0),
    18: (call_show, 0, 2),
    19: (call_look, 0, 1),
}


def how_many_numbers(call):
    return CALLS[call][1]


def how_many_rows(call):
    return CALLS[call][2]


def answer_call(desk, call, numbers, rows):
    answerer = CALLS[call][0]
    try:
        return [0] + answerer(desk, numbers, rows)
    except OutOfRange:
        return [-1]
    except NoBook:
        return [-2]
    except NoItem:
        return [-3]
    except NotToBeGone:
        return [-4]
    except WrongPlace:
        return [-5]
    except TaxHeld:
        return [-6]
    except NoAmount:
        return [-7]
    except NoWeight:
        return [-8]
