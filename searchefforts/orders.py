"""The expected time of an order of efforts, and the best order of a row of them."""

from searchefforts.chances import fraction, mass_sum, next_adds, order_adds

# All times, 1 to 20, divide it: so what efforts add by their time is compared in whole numbers.
COMMON_TIME = 232792560


def expected_time(tables, had, times, order):
    left = mass_sum(tables, had)
    not_found = left
    sums = 0
    for cell, adds in zip(order, order_adds(tables, had, order)):
        sums += times[cell] * not_found
        not_found -= adds
    return fraction(sums, left)


# A cell's efforts never add more than the one before, so a sorted list has them in their own order too.
def best_order(tables, had, times, row):
    efforts = []
    for cell, many in enumerate(row):
        for before in range(had[cell], had[cell] + many):
            by_time = next_adds(tables[cell], before) * (COMMON_TIME // times[cell])
            efforts.append((-by_time, cell))
    return [cell for by_time, cell in sorted(efforts)]
