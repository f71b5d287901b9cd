"""The book: what a text has told. Taxes, items, bundles and coupons go by their numbers, from 1."""

USUAL_ROUNDING = (4, 1)


# over is the number of the tax that this one is over, 0 if there is none.
class Tax:
    def __init__(self, name, rate, on, over):
        self.name = name
        self.rate = rate
        self.on = on
        self.over = over


# taxes are in the order told, for the one form; tax_set is in the book's order, for reckoning.
# from_lines and step_lines hold pairs: from which piece on, the price.
class Item:
    def __init__(self, name, price, taxes):
        self.name = name
        self.price = price
        self.taxes = taxes
        self.tax_set = tuple(sorted(taxes))
        self.from_lines = []
        self.step_lines = []
        self.free = None


# parts are pairs: an item's number, how many pieces.
class Bundle:
    def __init__(self, name, price, parts):
        self.name = name
        self.price = price
        self.parts = parts


# item, cap and when are 0 where they are not told.
class Coupon:
    def __init__(self, name, kind, amount, item, cap, when):
        self.name = name
        self.kind = kind
        self.amount = amount
        self.item = item
        self.cap = cap
        self.when = when


# names leads from each name to its kind and number; apart_pairs have the lesser number first;
# settings holds round, cash and by as far as told.
class Book:
    def __init__(self):
        self.names = {}
        self.tax_list = []
        self.item_list = []
        self.bundle_list = []
        self.coupon_list = []
        self.apart_pairs = []
        self.settings = {}


# Lines read later go on behind an item's last ones.
def copied_item(item):
    twin = Item(item.name, item.price, item.taxes)
    twin.from_lines = list(item.from_lines)
    twin.step_lines = list(item.step_lines)
    twin.free = item.free
    return twin


# Taxes, bundles and coupons stay as told, so both books may have the same ones.
def copied_book(book):
    twin = Book()
    twin.names = dict(book.names)
    twin.tax_list = list(book.tax_list)
    twin.item_list = [copied_item(item) for item in book.item_list]
    twin.bundle_list = list(book.bundle_list)
    twin.coupon_list = list(book.coupon_list)
    twin.apart_pairs = list(book.apart_pairs)
    twin.settings = dict(book.settings)
    return twin


def percent_rounding(book):
    return book.settings.get("round", USUAL_ROUNDING)


def cash_rounding(book):
    return book.settings.get("cash", USUAL_ROUNDING)


def taxed_by_line(book):
    return book.settings.get("by", "total") == "line"
