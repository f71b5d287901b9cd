"""What pieces of an item cost."""

MOST_PIECES = 40


def how_many_paid(item, pieces):
    if item.free is None:
        return pieces
    return pieces - pieces // item.free[1] * item.free[0]


# price_lines rise by their pieces, so the last that holds is the last one met.
def price_at(item, price_lines, pieces):
    price = item.price
    for least, line_price in price_lines:
        if least <= pieces:
            price = line_price
    return price


# What each of so many paid pieces costs.
def paid_costs(item, paid):
    if len(item.step_lines) > 0:
        return [price_at(item, item.step_lines, place) for place in range(1, paid + 1)]
    price = price_at(item, item.from_lines, paid)
    return [price for place in range(paid)]


def cost_of(item, pieces):
    return sum(paid_costs(item, how_many_paid(item, pieces)))


# The place counts from 0; in a last row that isn't full no piece is free.
def is_free(item, pieces, place):
    if item.free is None:
        return False
    size = item.free[1]
    return place < pieces // size * size and place % size >= size - item.free[0]


# What each piece costs, 0 for a free one.
def piece_costs(item, pieces):
    paid = paid_costs(item, how_many_paid(item, pieces))
    costs = []
    used = 0
    for place in range(pieces):
        if is_free(item, pieces, place):
            costs.append(0)
        else:
            costs.append(paid[used])
            used += 1
    return costs


# The number of pieces, from this one on, that costs least, and what it costs.
def cheapest_from(item, pieces):
    best = pieces
    least = cost_of(item, pieces)
    for more in range(pieces + 1, MOST_PIECES + 1):
        cost = cost_of(item, more)
        if cost < least:
            best = more
            least = cost
    return [best, least]
