"""What the tests share: making calls, telling books, and a model of bills in exact fractions.

The model is written from the document alone and in another manner than the program
(fractions, one piece at a time, every way tried), so that both are held against each other.
A book is told to the model as a dict, not as a text.
"""

import itertools
import math
import random
import re
from fractions import Fraction

from pricebook.bills import answers

READ, CHECK, PRINT, NAMES, COST, CHEAP, BILL, TAXES, PRICE, BEST = range(10)
ALL, SHARES, ROUND, NETS, PARTS, ADD, DROP, PIECES, SHOW, LOOK = range(10, 20)
GREAT = 1000000000000000000


def as_bytes(text):
    return list(text.encode("latin-1")) if isinstance(text, str) else list(text)


def row(numbers):
    return [len(numbers)] + list(numbers)


def read(text):
    return [READ] + row(as_bytes(text))


def check(text):
    return [CHECK] + row(as_bytes(text))


def on_way(call, basket, way):
    return [call] + row(basket) + row(way)


def bill(basket, way):
    return on_way(BILL, basket, way)


def taxes(basket, way):
    return on_way(TAXES, basket, way)


def price(basket, way):
    return on_way(PRICE, basket, way)


def best(basket):
    return [BEST] + row(basket)


def all_of(basket):
    return [ALL] + row(basket)


def shares(whole, weights):
    return [SHARES, whole] + row(weights)


def add(text):
    return [ADD] + row(as_bytes(text))


def show(basket, way):
    return on_way(SHOW, basket, way)


def look(text):
    return [LOOK] + row(as_bytes(text))


def split_answers(numbers):
    found = []
    place = 0
    while place < len(numbers):
        found.append(numbers[place + 1:place + 1 + numbers[place]])
        place += 1 + numbers[place]
    return found


def ask(*calls):
    """The answers of these calls on one object, one list each."""
    found = split_answers(answers([number for call in calls for number in call]))
    if len(found) != len(calls):
        raise AssertionError("there is not one answer for each call")
    return found


def ask_book(text, *calls):
    """The answers of these calls on a book with this text."""
    found = ask(read(text), *calls)
    if found[0][0] != 0:
        raise AssertionError("the book is not read: " + str(ask(check(text))))
    return found[1:]


def as_text(answer):
    """The text of an answer that is bytes."""
    if answer[0] != 0:
        raise AssertionError(answer)
    return bytes(answer[1:]).decode("ascii")


def printed(text):
    return as_text(ask_book(text, [PRINT])[0])


def shown(text, basket, way):
    return as_text(ask_book(text, show(basket, way))[0])


def every_way(bundles, coupons):
    """Every way with so many bundles and coupons, whether it may be gone or not: counts and coupons."""
    numbers = range(1, coupons + 1)
    for counts in itertools.product(range(4), repeat=bundles):
        for size in range(coupons + 1):
            for chosen in itertools.combinations(numbers, size):
                yield list(counts), list(chosen)


def priced_ways(text, basket, bundles, coupons):
    """The ways that may be gone, each behind what price answers."""
    ways = list(every_way(bundles, coupons))
    found = []
    for start in range(0, len(ways), 50):
        some = ways[start:start + 50]
        prices = ask_book(text, *[price(basket, counts + chosen) for counts, chosen in some])
        found += [(answer[1], *way) for answer, way in zip(prices, some) if answer != [-4]]
    return found


# Books as dicts, and their texts.

def tax_line(book, tax):
    name, rate, kind, over = tax
    line = f"tax {name} {rate} {kind}"
    return line if over is None else f"{line} over {book['taxes'][over][0]}"


def item_lines(book, item):
    words = [f"item {item['name']} {item['price']}"] + [book["taxes"][k][0] for k in item["taxes"]]
    lines = [" ".join(words)]
    lines += [f"{item['kind']} {item['name']} {pieces} {cost}" for pieces, cost in item["lines"]]
    if item["free"]:
        lines.append(f"free {item['name']} {item['free'][0]} of {item['free'][1]}")
    return lines


def bundle_line(book, bundle):
    name, cost, parts = bundle
    return " ".join([f"bundle {name} {cost}"] + [f"{book['items'][k]['name']} {n}" for k, n in parts])


def coupon_line(book, coupon):
    line = f"coupon {coupon['name']} {coupon['kind']} {coupon['n']}"
    if coupon["item"] is not None:
        line += f" of {book['items'][coupon['item']]['name']}"
    for word in ("cap", "when"):
        if coupon[word] is not None:
            line += f" {word} {coupon[word]}"
    return line


def apart_line(book, pair):
    return "apart " + " ".join(book["coupons"][k]["name"] for k in pair)


def setting_lines(book):
    lines = [f"{word} {book[word][0]} {book[word][1]}" for word in ("round", "cash") if book[word]]
    return lines + ([f"by {book['by']}"] if book["by"] else [])


def one_form(book):
    """The text that print is to answer."""
    lines = [tax_line(book, tax) for tax in book["taxes"]]
    for item in book["items"]:
        lines += item_lines(book, item)
    lines += [bundle_line(book, bundle) for bundle in book["bundles"]]
    lines += [coupon_line(book, coupon) for coupon in book["coupons"]]
    lines += [apart_line(book, sorted(pair)) for pair in book["apart"]]
    return "".join(line + "\n" for line in lines + setting_lines(book))


def queues_of(book):
    """The book's lines in queues; within one the order is fixed, else what is needed comes first."""
    items = [item_lines(book, item) for item in book["items"]]
    queues = [
        [tax_line(book, tax) for tax in book["taxes"]],
        [lines[0] for lines in items],
        [bundle_line(book, bundle) for bundle in book["bundles"]],
        [coupon_line(book, coupon) for coupon in book["coupons"]],
        [apart_line(book, pair) for pair in book["apart"]],
    ]
    for lines in items:
        queues.append([line for line in lines[1:] if not line.startswith("free")])
        queues.append([line for line in lines[1:] if line.startswith("free")])
    return queues + [[line] for line in setting_lines(book)]


def some_text(book, chance):
    """The book's lines in another order that may stand, with blanks and lines that mean nothing."""
    names = [tax[0] for tax in book["taxes"]] + [bundle[0] for bundle in book["bundles"]]
    names += [item["name"] for item in book["items"]] + [coupon["name"] for coupon in book["coupons"]]
    queues = [queue for queue in queues_of(book) if queue]
    told = set()
    text = ""
    while queues:
        queue = chance.choice(queues)
        words = queue[0].split(" ")
        own = words[1] if words[0] in ("tax", "item", "bundle", "coupon") else None
        if all(word in told or word not in names for word in words if word != own):
            told.add(own)
            gaps = [" " * chance.choice((1, 1, 1, 2, 3)) for word in words]
            text += "".join(chance.choice(("", "", "", "\n", "  \n")))
            text += " " * chance.choice((0, 0, 1)) + "".join(w + g for w, g in zip(words, gaps)).rstrip(" ")
            text += " " * chance.choice((0, 0, 1)) + "\n"
            queue.pop(0)
            queues = [rest for rest in queues if rest]
    return text[:-1] if chance.random() < 0.3 else text


def empty_book():
    return {"taxes": [], "items": [], "bundles": [], "coupons": [], "apart": [],
            "round": None, "cash": None, "by": None}


def some_money(chance):
    return chance.choice((0, chance.randint(1, 9), chance.randint(1, 300), chance.randint(1, 20000)))


def some_item(chance, number, taxes_there):
    kind = chance.choice(("from", "step"))
    points = sorted(chance.sample(range(2, 13), chance.choice((0, 0, 1, 2, 5))))
    free = chance.randint(1, 4)
    return {
        "name": f"i{number}", "price": some_money(chance), "kind": kind,
        "taxes": chance.sample(range(taxes_there), chance.randint(0, taxes_there)),
        "lines": [(point, some_money(chance)) for point in points],
        "free": chance.choice((None, None, (free, free + chance.randint(1, 4)))),
    }


def some_coupon(chance, number, items_there):
    kind = chance.choice(("off", "less"))
    return {
        "name": f"c{number}", "kind": kind,
        "n": chance.choice((1, 10000, chance.randint(1, 9999))) if kind == "off" else chance.randint(1, 3000),
        "item": chance.choice((None, chance.randrange(items_there))) if items_there else None,
        "cap": chance.choice((None, None, chance.randint(1, 500))),
        "when": chance.choice((None, None, chance.randint(1, 2000), chance.randint(1, 90000))),
    }


def some_book(chance, most_items=8, most_bundles=3, most_coupons=5):
    book = empty_book()
    for number in range(chance.randint(0, 4)):
        earlier = [k for k, tax in enumerate(book["taxes"]) if tax[2] == "on"]
        kind = chance.choice(("in", "on"))
        over = chance.choice(earlier) if kind == "on" and earlier and chance.random() < 0.7 else None
        rate = chance.choice((0, 10000, chance.randint(1, 2500), chance.randint(1, 2500)))
        book["taxes"].append((f"t{number}", rate, kind, over))
    for number in range(chance.randint(0, most_items)):
        book["items"].append(some_item(chance, number, len(book["taxes"])))
    if book["items"]:
        for number in range(chance.randint(0, most_bundles)):
            chosen = chance.sample(range(len(book["items"])), chance.randint(1, min(4, len(book["items"]))))
            parts = [(k, chance.choice((1, 1, 2, 3))) for k in chosen]
            book["bundles"].append((f"b{number}", some_money(chance), parts))
    for number in range(chance.randint(0, most_coupons)):
        book["coupons"].append(some_coupon(chance, number, len(book["items"])))
    pairs = [list(pair) for pair in itertools.combinations(range(len(book["coupons"])), 2)]
    for pair in chance.sample(pairs, min(len(pairs), chance.choice((0, 0, 1, 3)))):
        chance.shuffle(pair)
        book["apart"].append(tuple(pair))
    book["round"] = chance.choice((None, (chance.randint(0, 9), chance.choice((1, 1, 5, 10, 100)))))
    book["cash"] = chance.choice((None, (chance.randint(0, 9), chance.choice((1, 5, 10, 100)))))
    book["by"] = chance.choice((None, "line", "total"))
    return book


def some_basket(chance, book, most=12):
    return [chance.choice((0, chance.randint(1, 6), chance.randint(0, most))) for item in book["items"]]


def some_way(chance, book, most_times=1):
    counts = [chance.randint(0, most_times) for bundle in book["bundles"]]
    return counts + [k + 1 for k in range(len(book["coupons"])) if chance.random() < 0.4]


def books(seed, how_many, **limits):
    """So many books, the same ones each time."""
    chance = random.Random(seed)
    return [(some_book(chance, **limits), chance) for turn in range(how_many)]


# The model.

def model_round(rounding, x):
    rule, unit = rounding or (4, 1)
    low = math.floor(x / unit)
    if low * unit == x:
        return int(x)
    below, above = low * unit, (low + 1) * unit
    nearer = None
    if x - below != above - x:
        nearer = below if x - below < above - x else above
    even, odd = (below, above) if low % 2 == 0 else (above, below)
    at_half = {4: above, 7: above, 5: below, 6: below, 8: even, 9: odd}
    if rule in at_half:
        return at_half[rule] if nearer is None else nearer
    return {0: below, 2: below, 1: above, 3: above}[rule]


def model_shares(whole, weights):
    if not any(weights):
        return [0] * len(weights)
    exact = [Fraction(whole * weight, sum(weights)) for weight in weights]
    found = [math.floor(part) for part in exact]
    lost = [part - share for part, share in zip(exact, found)]
    while sum(found) < whole:
        first = lost.index(max(lost))
        found[first] += 1
        lost[first] = -1
    return found


def model_pieces(item, n):
    """What each of n pieces costs; None for a free one."""
    free, rows = item["free"] or (0, 1)
    costs = []
    for place in range(n):
        in_full_row = (place // rows + 1) * rows <= n
        costs.append(None if in_full_row and place % rows >= rows - free else 0)
    paid = [place for place, cost in enumerate(costs) if cost is not None]
    for which, place in enumerate(paid, start=1):
        reached = which if item["kind"] == "step" else len(paid)
        steps = [cost for pieces, cost in item["lines"] if pieces <= reached]
        costs[place] = steps[-1] if steps else item["price"]
    return costs


def model_cost(item, n):
    costs = [cost for cost in model_pieces(item, n) if cost is not None]
    return [sum(costs), len(costs)]


def model_before(book, basket, counts):
    """The lines before coupons, or None if the bundles have more pieces than the basket."""
    left = list(basket)
    behind = []
    for (name, cost, parts), times in zip(book["bundles"], counts):
        for k, pieces in parts:
            left[k] -= times * pieces
        weights = [book["items"][k]["price"] * pieces for k, pieces in parts]
        if not any(weights):
            weights = [pieces for k, pieces in parts]
        if times:
            amounts = model_shares(cost * times, weights)
            behind += [[k, amount] for (k, pieces), amount in zip(parts, amounts)]
    if any(pieces < 0 for pieces in left):
        return None
    ahead = [[k, model_cost(book["items"][k], n)[0]] for k, n in enumerate(left) if n]
    return ahead + behind


def model_lines(book, basket, way):
    """The lines at the end, or None if the way may not be gone."""
    counts, coupons = way[:len(book["bundles"])], [k - 1 for k in way[len(book["bundles"]):]]
    lines = model_before(book, basket, counts)
    if lines is None or any(a in coupons and b in coupons for a, b in book["apart"]):
        return None
    whole = sum(amount for k, amount in lines)
    if any(whole < (book["coupons"][c]["when"] or 0) for c in coupons):
        return None
    for coupon in [book["coupons"][c] for c in coupons]:
        own = [line for line in lines if coupon["item"] in (None, line[0])]
        base = sum(amount for k, amount in own)
        off = coupon["n"]
        if coupon["kind"] == "off":
            off = model_round(book["round"], Fraction(base * coupon["n"], 10000))
        off = min(off, base) if coupon["cap"] is None else min(off, coupon["cap"], base)
        for line, share in zip(own, model_shares(off, [amount for k, amount in own])):
            line[1] -= share
    return lines


def model_taxes_of(book, amount, numbers):
    """The bare amount, and what each of these taxes is."""
    found = {}
    inside = [k for k in sorted(numbers) if book["taxes"][k][2] == "in"]
    whole = 10000 + sum(book["taxes"][k][1] for k in inside)
    for k in inside:
        found[k] = model_round(book["round"], Fraction(amount * book["taxes"][k][1], whole))
    bare = max(0, amount - sum(found.values()))
    for k in sorted(numbers):
        name, rate, kind, over = book["taxes"][k]
        if kind == "on":
            base = bare + (found[over] if over in numbers else 0)
            found[k] = model_round(book["round"], Fraction(base * rate, 10000))
    return bare, found


def model_totals(book, lines):
    """How much each tax is in all; then the sum, what's due, what's paid."""
    groups = [(frozenset(book["items"][k]["taxes"]), amount) for k, amount in lines]
    if book["by"] != "line":
        kinds = list(dict.fromkeys(group for group, amount in groups))
        groups = [(kind, sum(amount for group, amount in groups if group == kind)) for kind in kinds]
    totals = [0] * len(book["taxes"])
    for group, amount in groups:
        for k, much in model_taxes_of(book, amount, group)[1].items():
            totals[k] += much
    whole = sum(amount for k, amount in lines)
    due = whole + sum(much for much, tax in zip(totals, book["taxes"]) if tax[2] == "on")
    return totals + [whole, due, model_round(book["cash"], Fraction(due))]


def model_ways(book, basket):
    """All ways that may be gone, with what is paid."""
    found = []
    for counts, coupons in every_way(len(book["bundles"]), len(book["coupons"])):
        lines = model_lines(book, basket, counts + coupons)
        if lines is not None:
            found.append((model_totals(book, lines)[-1], counts, coupons))
    return found


def preference(way):
    paid, counts, coupons = way
    return paid, len(coupons), counts, sum(2 ** (k - 1) for k in coupons)


def best_answer(way):
    paid, counts, coupons = way
    return [0, paid, len(counts)] + counts + [len(coupons)] + coupons


def model_best(book, basket):
    return best_answer(min(model_ways(book, basket), key=preference))


def model_bill(book, basket, way):
    lines = model_lines(book, basket, way)
    return [-4] if lines is None else [0] + [number for k, amount in lines for number in (k + 1, amount)]


def model_taxes(book, basket, way):
    lines = model_lines(book, basket, way)
    return [-4] if lines is None else [0] + model_totals(book, lines)


def model_paid(book, item, amount):
    """What's paid for this amount of an item, alone."""
    found = model_taxes_of(book, amount, item["taxes"])[1]
    on_top = sum(much for k, much in found.items() if book["taxes"][k][2] == "on")
    return model_round(book["cash"], Fraction(amount + on_top))


def model_parts(book, item, amount):
    bare, found = model_taxes_of(book, amount, item["taxes"])
    pairs = [number for k in sorted(found) for number in (k + 1, found[k])]
    return [0, bare, model_paid(book, item, amount)] + pairs


def model_show(book, basket, way):
    """The bill as a text, or None if the way may not be gone."""
    lines = model_lines(book, basket, way)
    if lines is None:
        return None
    names = [item["name"] for item in book["items"]]
    *much, whole, due, paid = model_totals(book, lines)
    text = "".join(f"has {name} {n}\n" for name, n in zip(names, basket) if n)
    text += "".join(f"uses {bundle[0]} {n}\n" for bundle, n in zip(book["bundles"], way) if n)
    text += "".join(f"with {book['coupons'][c - 1]['name']}\n" for c in way[len(book["bundles"]):])
    text += "".join(f"line {names[k]} {amount}\n" for k, amount in lines)
    text += "".join(f"tax {tax[0]} {n}\n" for tax, n in zip(book["taxes"], much))
    return text + f"sum {whole}\ndue {due}\npay {paid}\n"


def model_head(book, lines):
    """The basket and the way of a head's lines, or the number of the first wrong one."""
    names = {"has": [item["name"] for item in book["items"]],
             "uses": [bundle[0] for bundle in book["bundles"]],
             "with": [coupon["name"] for coupon in book["coupons"]]}
    told = {"has": {}, "uses": {}, "with": {}}
    most = {"has": 40, "uses": 3}
    for number, line in enumerate(lines, start=1):
        first, *others = re.findall("[^ ]+", line)
        if len(others) != (1 if first == "with" else 2) or others[0] not in names[first]:
            return number
        which = names[first].index(others[0])
        if first == "with":
            if any(which <= other for other in told["with"]):
                return number
            told["with"][which] = 1
        elif which in told[first] or others[1] not in map(str, range(1, most[first] + 1)):
            return number
        else:
            told[first][which] = int(others[1])
    basket = [told["has"].get(k, 0) for k in range(len(names["has"]))]
    counts = [told["uses"].get(k, 0) for k in range(len(names["uses"]))]
    return basket, counts + [k + 1 for k in told["with"]]


def model_look(book, text):
    """What look answers behind the 0; the text has one sign a byte."""
    lines = text.split("\n")
    if lines[-1] == "":
        lines.pop()
    heads = list(itertools.takewhile(lambda line: re.match(" *(has|uses|with)( |$)", line), lines))
    told = model_head(book, heads)
    if isinstance(told, int):
        return told
    right = model_show(book, *told)
    if right is None:
        return len(heads) + 1
    for number, (line, want) in enumerate(itertools.zip_longest(lines, right.splitlines()), start=1):
        if line != want:
            return number
    return 0
