"""The object that the calls act on."""

from searchefforts.chances import MOST_EFFORTS, mass_sum, mass_table


# The weights stand beside the field: evidence changes them, but the field is shown as it was told.
class Search:
    def __init__(self):
        self.field = None
        self.weights = []
        self.had = []

    def begin(self, field):
        self.field = field
        self.weights = [cell.weight for cell in field.cells]
        self.had = [0 for cell in field.cells]

    def is_cell(self, number):
        return 0 <= number < len(self.had)

    def is_row(self, row):
        return len(row) == len(self.had) and all([0 <= efforts <= MOST_EFFORTS for efforts in row])

    def tables(self):
        parts = self.field.parts
        cells = self.field.cells
        return [mass_table(weight, cell.finds, parts) for weight, cell in zip(self.weights, cells)]

    def left(self):
        return mass_sum(self.tables(), self.had)
