"""What pieces of an item cost."""

MOST_PIECES = 40


def how_many_paid(item, pieces):
    if item.free is None:
        return pieces
    return pieces - pieces // item.free[1] * item.free[0]


# price_lines rise by their pieces, so the last that holds is the last one met.
def price_at(item, price_lines, pieces):
    price = item.price
    for least, line_price in price_lines:
        if least <= pieces:
            price = line_price
    return price


def cost_of(item, pieces):
    paid = how_many_paid(item, pieces)
    if len(item.step_lines) > 0:
        return sum([price_at(item, item.step_lines, place) for place in range(1, paid + 1)])
    return paid * price_at(item, item.from_lines, paid)


# The number of pieces, from this one on, that costs least, and what it costs.
def cheapest_from(item, pieces):
    best = pieces
    least = cost_of(item, pieces)
    for more in range(pieces + 1, MOST_PIECES + 1):
        cost = cost_of(item, more)
        if cost < least:
            best = more
            least = cost
    return [best, least]
