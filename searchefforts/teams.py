"""Which efforts the teams can make, and the best of them."""

from searchefforts.best import best_cell
from searchefforts.chances import next_adds


# In these cells the teams can make so many efforts at most.
class Bound:
    def __init__(self, cells, most):
        self.cells = cells
        self.most = most

    def spare(self, row):
        return self.most - sum([row[cell] for cell in self.cells])


def team_choices(teams):
    made = [[]]
    for team in teams:
        made = made + [choice + [team] for choice in made]
    return made


def efforts_of(teams):
    return sum([team.efforts for team in teams])


# In cells where none of the teams left out can be, the other teams alone make efforts. A row that has there at most
# what these can make, whichever teams are left out, can be dealt (Hall's theorem): so no dealing is looked for.
def bounds_of(teams, many_cells):
    bounds = []
    for left_out in team_choices(teams):
        reached = []
        for team in left_out:
            reached.extend(team.cells)
        cells = [cell for cell in range(many_cells) if cell not in reached]
        bounds.append(Bound(cells, efforts_of(teams) - efforts_of(left_out)))
    return bounds


def can_make(bounds, row):
    return all([bound.spare(row) >= 0 for bound in bounds])


def free_cells(bounds, row):
    is_free = [True for efforts in row]
    for bound in bounds:
        if bound.spare(row) == 0:
            for cell in bound.cells:
                is_free[cell] = False
    return [cell for cell in range(len(row)) if is_free[cell]]


def teams_row(bounds, tables, had):
    row = [0 for efforts in had]
    now = list(had)
    cell = best_cell(tables, now, free_cells(bounds, row))
    while cell is not None and next_adds(tables[cell], now[cell]) > 0:
        row[cell] += 1
        now[cell] += 1
        cell = best_cell(tables, now, free_cells(bounds, row))
    return row
