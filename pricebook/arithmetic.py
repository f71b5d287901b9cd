"""Rounding and shares, by whole numbers alone."""


# A rounding is a pair: its rule and its unit. What is rounded is number / divisor.
def rounded(rounding, number, divisor):
    rule = rounding[0]
    unit = rounding[1]
    step = divisor * unit
    times = number // step
    rest = number % step
    if rest == 0 or takes_lesser(rule, times, 2 * rest - step):
        return times * unit
    return (times + 1) * unit


# beyond_half is below 0 if the lesser multiple is nearer, 0 if both are equally near.
def takes_lesser(rule, times, beyond_half):
    if rule < 4:
        return rule in (0, 2)
    if beyond_half != 0:
        return beyond_half < 0
    if rule == 8:
        return times % 2 == 0
    if rule == 9:
        return times % 2 == 1
    return rule in (5, 6)


# A weight of 0 leaves no remainder, so it gets no share: lines that a discount
# does not touch may stand among the weights as zeros.
def share_out(whole, weights):
    total = sum(weights)
    if total == 0:
        return [0 for weight in weights]
    parts = [whole * weight // total for weight in weights]
    remainders = [whole * weight % total for weight in weights]
    order = sorted(range(len(weights)), key=lambda place: (0 - remainders[place], place))
    for place in order[:whole - sum(parts)]:
        parts[place] += 1
    return parts
