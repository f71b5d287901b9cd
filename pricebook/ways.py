"""Ways of using bundles and coupons: which may be gone, and the best one."""

from pricebook.lines import lines_after_coupon, lines_before_coupons, pieces_left, total_of
from pricebook.taxes import price_of_lines

MOST_TIMES = 3


def bundles_fit(book, basket, counts):
    return min(pieces_left(book, basket, counts), default=0) >= 0


def goes_with(book, coupons, number):
    return not any([(earlier, number) in book.apart_pairs for earlier in coupons])


# before are the lines before coupons.
def when_holds(book, before, number):
    return total_of(before) >= book.coupon_list[number - 1].when


def may_be_gone(book, basket, counts, coupons):
    if not bundles_fit(book, basket, counts):
        return False
    before = lines_before_coupons(book, basket, counts)
    for place, number in enumerate(coupons):
        if not goes_with(book, coupons[:place], number) or not when_holds(book, before, number):
            return False
    return True


# How often each bundle may be taken, in the order that "compared number by number" asks for.
def bundle_counts(book, basket):
    found = [()]
    for bundle in book.bundle_list:
        longer = []
        for counts in found:
            longer.extend([counts + (times,) for times in range(MOST_TIMES + 1)])
        found = longer
    return [counts for counts in found if bundles_fit(book, basket, counts)]


# All sets of coupons that go with these lines before coupons. A set grows by its greatest number
# out of one found earlier, so the sets stand in their order as numbers.
def coupon_sets(book, before):
    found = [()]
    for number in range(1, len(book.coupon_list) + 1):
        if when_holds(book, before, number):
            found = found + [coupons + (number,) for coupons in found if goes_with(book, coupons, number)]
    return found


# The lines at the end by each such set; all but its greatest number are a set found earlier.
def lines_by_coupons(book, before):
    found = {(): before}
    for coupons in coupon_sets(book, before)[1:]:
        found[coupons] = lines_after_coupon(book, found[coupons[:-1]], book.coupon_list[coupons[-1] - 1])
    return found


def how_many_ways(book, basket):
    befores = [lines_before_coupons(book, basket, counts) for counts in bundle_counts(book, basket)]
    return sum([len(coupon_sets(book, before)) for before in befores])


# What is paid, how often bundles are taken, the coupons. Ways come in the order in which
# equal ones are preferred, so only a better one takes the place of an earlier one.
def best_way(book, basket):
    best = None
    for counts in bundle_counts(book, basket):
        for coupons, lines in lines_by_coupons(book, lines_before_coupons(book, basket, counts)).items():
            paid = price_of_lines(book, lines)
            if best is None or (paid, len(coupons)) < (best[0], len(best[2])):
                best = (paid, counts, coupons)
    return best
