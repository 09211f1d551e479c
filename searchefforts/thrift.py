"""The best efforts of so much time."""

from searchefforts.chances import MOST_EFFORTS


def cell_gains(table, efforts):
    return [table[efforts] - table[then] for then in range(efforts, MOST_EFFORTS + 1)]


# For each number of efforts in one cell that the spare time allows: what they gain, with the most that the cells
# behind gain in the time that they leave.
def choices(gains, time, behind, spare):
    return [gain + behind[spare - many * time] for many, gain in enumerate(gains) if many * time <= spare]


# For each cell, and for one behind the last: the most that it and the cells behind gain, in each time up to the
# greatest.
def most_gains(gains, times, greatest):
    behind = [0 for spare in range(greatest + 1)]
    most = [behind]
    for cell in range(len(gains) - 1, -1, -1):
        behind = [max(choices(gains[cell], times[cell], behind, spare)) for spare in range(greatest + 1)]
        most.insert(0, behind)
    return most


def thrift_row(tables, had, times, greatest):
    gains = [cell_gains(table, efforts) for table, efforts in zip(tables, had)]
    most = most_gains(gains, times, greatest)
    row = []
    spare = greatest
    for cell, time in enumerate(times):
        gained = choices(gains[cell], time, most[cell + 1], spare)
        # The first of several greatest ones is that with the fewest efforts.
        many = gained.index(max(gained))
        row.append(many)
        spare -= many * time
    return row
