"""The calls on one object, and their answers."""

from searchefforts.chances import MOST_EFFORTS, best_row, found, fraction, together
from searchefforts.reading import Wrong, read_field
from searchefforts.search import Search
from searchefforts.showing import shown

DONE = 0
TEXT_WRONG = 1
NOT_AS_TOLD = -1
TOO_MANY = -3
NOTHING_LEFT = -6
NO_FIELD = -20

MOST_BYTES = 1500
MOST_TIMES = 1000
MOST_BEST = 60
GREATEST_WEIGHT = 1000000000000


def call_where(search, numbers, text):
    if len(text) > MOST_BYTES or not all([0 <= byte <= 255 for byte in text]):
        return [NOT_AS_TOLD]
    try:
        read_field(text)
    except Wrong as wrong:
        return [TEXT_WRONG, wrong.kind, wrong.place]
    return [DONE]


def call_field(search, numbers, text):
    answer = call_where(search, numbers, text)
    if answer != [DONE]:
        return answer
    search.begin(read_field(text))
    return [DONE, len(search.field.cells), len(search.field.teams)]


def call_shown(search, numbers, row):
    return [DONE] + shown(search.field)


def call_vain(search, numbers, row):
    cell = numbers[0]
    more = numbers[1]
    if not (search.is_cell(cell) and 0 <= more <= MOST_EFFORTS):
        return [NOT_AS_TOLD]
    if search.had[cell] + more > MOST_EFFORTS:
        return [TOO_MANY]
    search.had[cell] += more
    return [DONE, search.had[cell]]


def call_back(search, numbers, row):
    cell = numbers[0]
    fewer = numbers[1]
    if not (search.is_cell(cell) and 0 <= fewer <= MOST_EFFORTS):
        return [NOT_AS_TOLD]
    if search.had[cell] < fewer:
        return [TOO_MANY]
    search.had[cell] -= fewer
    return [DONE, search.had[cell]]


def call_evidence(search, numbers, cells):
    if not all([0 <= times <= MOST_TIMES for times in numbers]):
        return [NOT_AS_TOLD]
    if not all([search.is_cell(cell) for cell in cells]):
        return [NOT_AS_TOLD]
    changed = []
    for cell, weight in enumerate(search.weights):
        changed.append(weight * (numbers[0] if cell in cells else numbers[1]))
    if max(changed) > GREATEST_WEIGHT:
        return [TOO_MANY]
    search.weights = changed
    return [DONE]


def call_chances(search, numbers, row):
    left = search.left()
    if left == 0:
        return [NOTHING_LEFT]
    answer = [DONE]
    for table, efforts in zip(search.tables(), search.had):
        answer.extend(fraction(table[efforts], left))
    return answer


def call_left(search, numbers, row):
    # Evidence isn't done in vain, so what would be left is by the weights as they are now.
    untouched = sum([table[0] for table in search.tables()])
    if untouched == 0:
        return [NOTHING_LEFT]
    return [DONE] + fraction(search.left(), untouched)


def call_would(search, numbers, row):
    if not search.is_row(row):
        return [NOT_AS_TOLD]
    if max(together(search.had, row)) > MOST_EFFORTS:
        return [TOO_MANY]
    if search.left() == 0:
        return [NOTHING_LEFT]
    return [DONE] + found(search.tables(), search.had, row)


def call_best(search, numbers, row):
    many = numbers[0]
    if not 0 <= many <= MOST_BEST:
        return [NOT_AS_TOLD]
    if sum(search.had) + many > MOST_EFFORTS * len(search.had):
        return [TOO_MANY]
    if search.left() == 0:
        return [NOTHING_LEFT]
    tables = search.tables()
    best = best_row(tables, search.had, many)
    return [DONE] + best + found(tables, search.had, best)


CALLS = (
    call_field, call_where, call_shown, call_vain, call_back,
    call_evidence, call_chances, call_left, call_would, call_best,
)
HOW_MANY_NUMBERS = (0, 0, 0, 2, 2, 2, 0, 0, 0, 1)
WITH_A_LIST = (0, 1, 5, 8)
WITHOUT_A_FIELD = (0, 1)


def answer_of(search, call, numbers, row):
    if search.field is None and call not in WITHOUT_A_FIELD:
        return [NO_FIELD]
    return CALLS[call](search, numbers, row)


def answers(calls):
    search = Search()
    given = []
    at = 0
    while at < len(calls):
        call = calls[at]
        start = at + 1
        at = start + HOW_MANY_NUMBERS[call]
        numbers = calls[start:at]
        row = []
        if call in WITH_A_LIST:
            start = at + 1
            at = start + calls[at]
            row = calls[start:at]
        answer = answer_of(search, call, numbers, row)
        given.append(len(answer))
        given.extend(answer)
    return given
