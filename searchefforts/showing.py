"""How a field is shown."""


def to_bytes(text):
    return [ord(sign) for sign in text]


def line(pieces):
    return " ".join(pieces) + ";\n"


def cell_line(cell):
    return line(["cell", cell.name, "weight", str(cell.weight), "finds", str(cell.finds), "time", str(cell.time)])


def team_line(team, cells):
    names = [cells[number].name for number in team.cells]
    return line(["team", str(team.efforts), "in"] + names)


def shown(field):
    lines = [line(["parts", str(field.parts)])]
    for cell in field.cells:
        lines.append(cell_line(cell))
    for team in field.teams:
        lines.append(team_line(team, field.cells))
    return to_bytes("".join(lines))
