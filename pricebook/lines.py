"""A bill's lines: pairs of an item's number and an amount."""

from pricebook.arithmetic import rounded, share_out
from pricebook.book import percent_rounding
from pricebook.pieces import cost_of


# Below 0 where the bundles have more pieces of an item than the basket.
def pieces_left(book, basket, counts):
    left = list(basket)
    for bundle, times in zip(book.bundle_list, counts):
        for number, pieces in bundle.parts:
            left[number - 1] -= times * pieces
    return left


def bundle_lines(book, bundle, times):
    weights = [book.item_list[number - 1].price * pieces for number, pieces in bundle.parts]
    if sum(weights) == 0:
        weights = [part[1] for part in bundle.parts]
    amounts = share_out(bundle.price * times, weights)
    return [(part[0], amount) for part, amount in zip(bundle.parts, amounts)]


def lines_before_coupons(book, basket, counts):
    lines = []
    for number, pieces in enumerate(pieces_left(book, basket, counts), start=1):
        if pieces > 0:
            lines.append((number, cost_of(book.item_list[number - 1], pieces)))
    for bundle, times in zip(book.bundle_list, counts):
        if times > 0:
            lines.extend(bundle_lines(book, bundle, times))
    return lines


def total_of(lines):
    return sum([line[1] for line in lines])


def discount_of(book, coupon, base):
    discount = coupon.amount
    if coupon.kind == "off":
        discount = rounded(percent_rounding(book), base * coupon.amount, 10000)
    if coupon.cap > 0:
        discount = min(discount, coupon.cap)
    return min(discount, base)


def lines_after_coupon(book, lines, coupon):
    weights = [amount if coupon.item in (0, number) else 0 for number, amount in lines]
    discounts = share_out(discount_of(book, coupon, sum(weights)), weights)
    return [(line[0], line[1] - discount) for line, discount in zip(lines, discounts)]


def lines_at_end(book, basket, counts, coupons):
    lines = lines_before_coupons(book, basket, counts)
    for number in coupons:
        lines = lines_after_coupon(book, lines, book.coupon_list[number - 1])
    return lines
