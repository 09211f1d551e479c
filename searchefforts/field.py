"""The calls on one object, and their answers."""

from searchefforts.best import best_cells, best_curve, best_price
from searchefforts.chances import MOST_EFFORTS, found, fraction, row_of
from searchefforts.orders import best_order, expected_time
from searchefforts.reading import Wrong, read_field
from searchefforts.search import Search
from searchefforts.showing import shown, to_bytes
from searchefforts.teams import bounds_of, can_make, efforts_of, teams_row
from searchefforts.thrift import thrift_row

DONE = 0
TEXT_WRONG = 1
NOT_AS_TOLD = -1
TOO_MANY = -3
NOTHING_LEFT = -6
NO_FIELD = -20

MOST_BYTES = 1500
MOST_TIMES = 1000
MOST_BEST = 60
MOST_PRICE = 59
MOST_IN_ORDER = 60
MOST_THRIFT = 100
GREATEST_WEIGHT = 1000000000000


def call_where(search, numbers, text):
    if len(text) > MOST_BYTES or not all([0 <= byte <= 255 for byte in text]):
        return [NOT_AS_TOLD]
    try:
        read_field(text)
    except Wrong as wrong:
        return [TEXT_WRONG, wrong.kind, wrong.place]
    return [DONE]


def call_field(search, numbers, text):
    answer = call_where(search, numbers, text)
    if answer != [DONE]:
        return answer
    search.begin(read_field(text))
    return [DONE, len(search.field.cells), len(search.field.teams)]


def call_shown(search, numbers, row):
    return [DONE] + shown(search.field)


def call_vain(search, numbers, row):
    cell = numbers[0]
    more = numbers[1]
    if not (search.is_cell(cell) and 0 <= more <= MOST_EFFORTS):
        return [NOT_AS_TOLD]
    if search.had[cell] + more > MOST_EFFORTS:
        return [TOO_MANY]
    search.had[cell] += more
    return [DONE, search.had[cell]]


def call_back(search, numbers, row):
    cell = numbers[0]
    fewer = numbers[1]
    if not (search.is_cell(cell) and 0 <= fewer <= MOST_EFFORTS):
        return [NOT_AS_TOLD]
    if search.had[cell] < fewer:
        return [TOO_MANY]
    search.had[cell] -= fewer
    return [DONE, search.had[cell]]


def call_evidence(search, numbers, cells):
    if not all([0 <= times <= MOST_TIMES for times in numbers]):
        return [NOT_AS_TOLD]
    if not all([search.is_cell(cell) for cell in cells]):
        return [NOT_AS_TOLD]
    changed = []
    for cell, weight in enumerate(search.weights):
        changed.append(weight * (numbers[0] if cell in cells else numbers[1]))
    if max(changed) > GREATEST_WEIGHT:
        return [TOO_MANY]
    search.weights = changed
    return [DONE]


def call_chances(search, numbers, row):
    left = search.left()
    if left == 0:
        return [NOTHING_LEFT]
    answer = [DONE]
    for table, efforts in zip(search.tables(), search.had):
        answer.extend(fraction(table[efforts], left))
    return answer


def call_left(search, numbers, row):
    # Evidence isn't done in vain, so what would be left is by the weights as they are now.
    untouched = sum([table[0] for table in search.tables()])
    if untouched == 0:
        return [NOTHING_LEFT]
    return [DONE] + fraction(search.left(), untouched)


# Empty if nothing is refused. Efforts asked of are refused for these three, which are looked at in this order.
def refused(search, as_told, can_be_made):
    if not as_told:
        return [NOT_AS_TOLD]
    if not can_be_made:
        return [TOO_MANY]
    if search.left() == 0:
        return [NOTHING_LEFT]
    return []


def call_would(search, numbers, row):
    refusal = refused(search, search.is_row(row), search.has_room(row))
    if refusal:
        return refusal
    return [DONE] + found(search.tables(), search.had, row)


def call_best(search, numbers, row):
    many = numbers[0]
    refusal = refused(search, 0 <= many <= MOST_BEST, search.has_room_for(many))
    if refusal:
        return refusal
    tables = search.tables()
    best = row_of(best_cells(tables, search.had, many), len(search.had))
    return [DONE] + best + found(tables, search.had, best)


def call_curve(search, numbers, row):
    many = numbers[0]
    refusal = refused(search, 0 <= many <= MOST_BEST, search.has_room_for(many))
    if refusal:
        return refusal
    return [DONE] + best_curve(search.tables(), search.had, many)


def call_price(search, numbers, row):
    many = numbers[0]
    refusal = refused(search, 1 <= many <= MOST_PRICE, search.has_room_for(many + 1))
    if refusal:
        return refusal
    return [DONE] + best_price(search.tables(), search.had, many)


def call_thrift(search, numbers, row):
    time = numbers[0]
    if not 0 <= time <= MOST_THRIFT:
        return [NOT_AS_TOLD]
    if search.left() == 0:
        return [NOTHING_LEFT]
    tables = search.tables()
    best = thrift_row(tables, search.had, search.times(), time)
    return [DONE] + best + found(tables, search.had, best)


def call_order(search, numbers, row):
    refusal = refused(search, search.is_row(row), search.has_room(row))
    if refusal:
        return refusal
    tables = search.tables()
    times = search.times()
    order = best_order(tables, search.had, times, row)
    return [DONE, len(order)] + order + expected_time(tables, search.had, times, order)


def call_takes(search, numbers, order):
    as_told = len(order) <= MOST_IN_ORDER and all([search.is_cell(cell) for cell in order])
    refusal = refused(search, as_told, search.has_room(row_of(order, len(search.had))))
    if refusal:
        return refusal
    return [DONE] + expected_time(search.tables(), search.had, search.times(), order)


def call_teams(search, numbers, row):
    if search.left() == 0:
        return [NOTHING_LEFT]
    tables = search.tables()
    best = teams_row(bounds_of(search.field.teams, len(search.had)), tables, search.had)
    return [DONE] + best + found(tables, search.had, best)


def call_can(search, numbers, row):
    if not search.is_row(row):
        return [NOT_AS_TOLD]
    return [DONE, 1 if can_make(bounds_of(search.field.teams, len(row)), row) else 0]


def call_cells(search, numbers, row):
    answer = [DONE, len(search.had)]
    for cell, weight, efforts in zip(search.field.cells, search.weights, search.had):
        name = to_bytes(cell.name)
        answer.append(len(name))
        answer.extend(name)
        answer.extend([weight, cell.finds, cell.time, efforts])
    return answer


def call_counts(search, numbers, row):
    field = search.field
    return [DONE, len(field.cells), len(field.teams), efforts_of(field.teams), field.parts, sum(search.had)]


def call_clear(search, numbers, row):
    search.forget()
    return [DONE]


CALLS = (
    call_field, call_where, call_shown, call_vain, call_back,
    call_evidence, call_chances, call_left, call_would, call_best,
    call_curve, call_price, call_thrift, call_order, call_takes,
    call_teams, call_can, call_cells, call_counts, call_clear,
)
HOW_MANY_NUMBERS = (0, 0, 0, 2, 2, 2, 0, 0, 0, 1, 1, 1, 1, 0, 0, 0, 0, 0, 0, 0)
WITH_A_LIST = (0, 1, 5, 8, 13, 14, 16)
WITHOUT_A_FIELD = (0, 1, 19)


def answer_of(search, call, numbers, row):
    if search.field is None and call not in WITHOUT_A_FIELD:
        return [NO_FIELD]
    return CALLS[call](search, numbers, row)


def answers(calls):
    search = Search()
    given = []
    at = 0
    while at < len(calls):
        call = calls[at]
        start = at + 1
        at = start + HOW_MANY_NUMBERS[call]
        numbers = calls[start:at]
        row = []
        if call in WITH_A_LIST:
            start = at + 1
            at = start + calls[at]
            row = calls[start:at]
        answer = answer_of(search, call, numbers, row)
        given.append(len(answer))
        given.extend(answer)
    return given
