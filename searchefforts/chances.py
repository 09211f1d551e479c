"""Masses of cells and what efforts add, in whole numbers, and fractions in lowest terms."""

MOST_EFFORTS = 20


def fraction(upper, lower):
    divisor = lower
    rest = upper
    while rest > 0:
        smaller = divisor % rest
        divisor = rest
        rest = smaller
    return [upper // divisor, lower // divisor]


# All masses of a field are told parts ** 20 times as great: so they are whole numbers, and a chance, one sum of
# masses over another, stays the same.
def mass_table(weight, finds, parts):
    mass = weight * parts ** 20
    table = [mass]
    while len(table) <= MOST_EFFORTS:
        mass = mass * (parts - finds) // parts
        table.append(mass)
    return table


def mass_sum(tables, had):
    return sum([table[efforts] for table, efforts in zip(tables, had)])


def together(had, row):
    return [before + more for before, more in zip(had, row)]


# What efforts add, one behind another, is together how much less mass there is behind the last one.
def found(tables, had, row):
    left = mass_sum(tables, had)
    return fraction(left - mass_sum(tables, together(had, row)), left)


# What one more effort adds is told as mass: over what's left, the same for all that are compared, it's the chance.
def next_adds(table, efforts):
    return table[efforts] - table[efforts + 1]


def order_adds(tables, had, order):
    now = list(had)
    adds = []
    for cell in order:
        adds.append(next_adds(tables[cell], now[cell]))
        now[cell] += 1
    return adds


def row_of(order, many_cells):
    return [order.count(cell) for cell in range(many_cells)]
