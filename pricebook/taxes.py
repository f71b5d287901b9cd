"""Taxes of amounts and of bills, and what is paid."""

from pricebook.arithmetic import rounded
from pricebook.book import cash_rounding, percent_rounding, taxed_by_line
from pricebook.lines import total_of


# The bare amount, and a dict from each tax of the set to how much it is.
def taxes_of_amount(book, amount, tax_set):
    rounding = percent_rounding(book)
    held = [number for number in tax_set if not book.tax_list[number - 1].on]
    whole = 10000 + sum([book.tax_list[number - 1].rate for number in held])
    bare = amount
    found = {}
    for number in held:
        found[number] = rounded(rounding, amount * book.tax_list[number - 1].rate, whole)
        bare -= found[number]
    bare = max(bare, 0)
    for number in tax_set:
        tax = book.tax_list[number - 1]
        if tax.on:
            # A tax is over an earlier one, so that one is reckoned already.
            found[number] = rounded(rounding, (bare + found.get(tax.over, 0)) * tax.rate, 10000)
    return (bare, found)


# The amounts that are taxed, as pairs: a set of taxes, an amount.
def taxed_amounts(book, lines):
    pairs = [(book.item_list[number - 1].tax_set, amount) for number, amount in lines]
    if taxed_by_line(book):
        return pairs
    together = {}
    for tax_set, amount in pairs:
        together[tax_set] = together.get(tax_set, 0) + amount
    return list(together.items())


# How much each tax of the book is in all.
def taxes_of_lines(book, lines):
    totals = [0 for tax in book.tax_list]
    for tax_set, amount in taxed_amounts(book, lines):
        found = taxes_of_amount(book, amount, tax_set)[1]
        for number in tax_set:
            totals[number - 1] += found[number]
    return totals


def due_of(book, lines, totals):
    on_top = [total for tax, total in zip(book.tax_list, totals) if tax.on]
    return total_of(lines) + sum(on_top)


def paid_for(book, due):
    return rounded(cash_rounding(book), due, 1)


def price_of_lines(book, lines):
    return paid_for(book, due_of(book, lines, taxes_of_lines(book, lines)))


# What's paid for this amount of an item, alone.
def paid_for_amount(book, item, amount):
    found = taxes_of_amount(book, amount, item.tax_set)[1]
    on_top = [found[number] for number in item.tax_set if book.tax_list[number - 1].on]
    return paid_for(book, amount + sum(on_top))
