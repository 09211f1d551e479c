"""The object that the calls act on."""

from searchefforts.chances import MOST_EFFORTS, mass_sum, mass_table, together


# The weights stand beside the field: evidence changes them, but the field is shown as it was told.
class Search:
    def __init__(self):
        self.field = None
        self.weights = []
        self.had = []

    def begin(self, field):
        self.field = field
        self.weights = [cell.weight for cell in field.cells]
        self.had = [0 for cell in field.cells]

    def forget(self):
        self.field = None
        self.weights = []
        self.had = []

    def is_cell(self, number):
        return 0 <= number < len(self.had)

    def is_row(self, row):
        return len(row) == len(self.had) and all([0 <= efforts <= MOST_EFFORTS for efforts in row])

    def has_room(self, row):
        return all([efforts <= MOST_EFFORTS for efforts in together(self.had, row)])

    def has_room_for(self, many):
        return sum(self.had) + many <= MOST_EFFORTS * len(self.had)

    def times(self):
        return [cell.time for cell in self.field.cells]

    def tables(self):
        parts = self.field.parts
        cells = self.field.cells
        return [mass_table(weight, cell.finds, parts) for weight, cell in zip(self.weights, cells)]

    def left(self):
        return mass_sum(self.tables(), self.had)
