"""The best k efforts, as they are dealt one after another."""

from searchefforts.chances import MOST_EFFORTS, fraction, mass_sum, next_adds, order_adds


def best_cell(tables, had, cells):
    best = None
    # Below 0, so that an effort that adds nothing is dealt too.
    most = -1
    for cell in cells:
        if had[cell] < MOST_EFFORTS:
            adds = next_adds(tables[cell], had[cell])
            if adds > most:
                best = cell
                most = adds
    return best


def best_cells(tables, had, many):
    cells = list(range(len(had)))
    now = list(had)
    dealt = []
    while len(dealt) < many:
        cell = best_cell(tables, now, cells)
        dealt.append(cell)
        now[cell] += 1
    return dealt


# The best k efforts are the first k of any more of them, so all chances come from one dealing.
def best_curve(tables, had, many):
    left = mass_sum(tables, had)
    so_far = 0
    curve = fraction(so_far, left)
    for adds in order_adds(tables, had, best_cells(tables, had, many)):
        so_far += adds
        curve.extend(fraction(so_far, left))
    return curve


def best_price(tables, had, many):
    left = mass_sum(tables, had)
    adds = order_adds(tables, had, best_cells(tables, had, many + 1))
    return fraction(adds[many - 1], left) + fraction(adds[many], left)
