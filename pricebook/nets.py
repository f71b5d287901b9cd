"""The amounts for which just a gross is paid."""

from pricebook.book import cash_rounding
from pricebook.taxes import paid_for_amount


# A greater amount is never paid with less, as roundings keep the order: so halving finds it.
# For most so much is paid at any rate.
def least_amount(book, item, paid, most):
    least = 0
    while least < most:
        middle = (least + most) // 2
        if paid_for_amount(book, item, middle) >= paid:
            most = middle
        else:
            least = middle + 1
    return least


# The least amount for which just the gross is paid, and how many there are (maybe none).
# Cash takes off less than a unit, so for the gross and a unit more than the gross is paid.
def amounts_paid_with(book, item, gross):
    most = gross + cash_rounding(book)[1]
    first = least_amount(book, item, gross, most)
    behind = least_amount(book, item, gross + 1, most)
    return [first, behind - first]
