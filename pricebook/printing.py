"""The book's one form."""

from pricebook.words import bytes_of_lines, line_of


def tax_words(book, tax):
    words = ["tax", tax.name, str(tax.rate), "on" if tax.on else "in"]
    if tax.over > 0:
        words.extend(["over", book.tax_list[tax.over - 1].name])
    return words


def item_rows(book, item):
    taxes = [book.tax_list[number - 1].name for number in item.taxes]
    rows = [["item", item.name, str(item.price)] + taxes]
    for pieces, price in item.from_lines:
        rows.append(["from", item.name, str(pieces), str(price)])
    for pieces, price in item.step_lines:
        rows.append(["step", item.name, str(pieces), str(price)])
    if item.free is not None:
        rows.append(["free", item.name, str(item.free[0]), "of", str(item.free[1])])
    return rows


def bundle_words(book, bundle):
    words = ["bundle", bundle.name, str(bundle.price)]
    for number, pieces in bundle.parts:
        words.extend([book.item_list[number - 1].name, str(pieces)])
    return words


def coupon_words(book, coupon):
    words = ["coupon", coupon.name, coupon.kind, str(coupon.amount)]
    if coupon.item > 0:
        words.extend(["of", book.item_list[coupon.item - 1].name])
    if coupon.cap > 0:
        words.extend(["cap", str(coupon.cap)])
    if coupon.when > 0:
        words.extend(["when", str(coupon.when)])
    return words


def apart_words(book, pair):
    return ["apart"] + [book.coupon_list[number - 1].name for number in pair]


def setting_rows(book):
    rows = []
    for word in ("round", "cash"):
        if word in book.settings:
            rows.append([word] + [str(number) for number in book.settings[word]])
    if "by" in book.settings:
        rows.append(["by", book.settings["by"]])
    return rows


def form_rows(book):
    rows = [tax_words(book, tax) for tax in book.tax_list]
    for item in book.item_list:
        rows.extend(item_rows(book, item))
    rows.extend([bundle_words(book, bundle) for bundle in book.bundle_list])
    rows.extend([coupon_words(book, coupon) for coupon in book.coupon_list])
    rows.extend([apart_words(book, pair) for pair in book.apart_pairs])
    return rows + setting_rows(book)


def one_form(book):
    return bytes_of_lines([line_of(words) for words in form_rows(book)])
