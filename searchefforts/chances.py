"""Masses of cells and what efforts add, in whole numbers, and fractions in lowest terms."""

MOST_EFFORTS = 20


def fraction(upper, lower):
    divisor = lower
    rest = upper
    while rest > 0:
        smaller = divisor % rest
        divisor = rest
        rest = smaller
    return [upper // divisor, lower // divisor]


# All masses of a field are told parts ** 20 times as great: so they are whole numbers, and a chance, one sum of
# masses over another, stays the same.
def mass_table(weight, finds, parts):
    mass = weight * parts ** 20
    table = [mass]
    while len(table) <= MOST_EFFORTS:
        mass = mass * (parts - finds) // parts
        table.append(mass)
    return table


def mass_sum(tables, had):
    return sum([table[efforts] for table, efforts in zip(tables, had)])


def together(had, row):
    return [before + more for before, more in zip(had, row)]


# What efforts add, one behind another, is together how much less mass there is behind the last one.
def found(tables, had, row):
    left = mass_sum(tables, had)
    return fraction(left - mass_sum(tables, together(had, row)), left)


def best_cell(tables, had):
    best = 0
    # Below 0, so that an effort that adds nothing is dealt too.
    most = -1
    for cell, efforts in enumerate(had):
        if efforts < MOST_EFFORTS:
            adds = tables[cell][efforts] - tables[cell][efforts + 1]
            if adds > most:
                best = cell
                most = adds
    return best


def best_row(tables, had, many):
    row = [0 for efforts in had]
    while sum(row) < many:
        row[best_cell(tables, together(had, row))] += 1
    return row
