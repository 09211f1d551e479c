"""How a field is read from its text, and what's wrong with a text that tells none."""

from searchefforts.model import Cell, Field, Team
from searchefforts.pieces import END, NUMBER, STOP, WORD, cut

RESERVED = ("parts", "cell", "weight", "finds", "time", "team", "in")

MISPLACED = 1
NO_CELL = 2
TOLD_OR_FULL = 3
OUT_OF_RANGE = 4
TOO_MANY_EFFORTS = 5

LEAST_PARTS = 2
MOST_PARTS = 100
MOST_CELLS = 16
MOST_WEIGHT = 1000
MOST_TIME = 20
MOST_TEAMS = 6
MOST_TEAM_EFFORTS = 12
MOST_EFFORTS_TOGETHER = 24


# Raised where something is wrong, and taken where the text was handed in: so the first thing counts.
class Wrong(Exception):
    def __init__(self, kind, place):
        Exception.__init__(self, "the text is wrong")
        self.kind = kind
        self.place = place


class Reader:
    def __init__(self, text):
        self.pieces = cut(text)
        self.at = 0

    def ahead(self):
        return self.pieces[self.at]

    def is_word(self, word):
        piece = self.ahead()
        return piece.kind == WORD and piece.value == word

    def take(self, fits):
        piece = self.ahead()
        if not fits:
            raise Wrong(MISPLACED, piece.place)
        self.at += 1
        return piece

    def take_word(self, word):
        self.take(self.is_word(word))

    def take_stop(self):
        self.take(self.ahead().kind == STOP)

    def take_name(self):
        piece = self.ahead()
        return self.take(piece.kind == WORD and piece.value not in RESERVED)

    def take_number(self, least, most):
        piece = self.take(self.ahead().kind == NUMBER)
        if not least <= piece.value <= most:
            raise Wrong(OUT_OF_RANGE, piece.place)
        return piece.value

    def take_end(self):
        self.take(self.ahead().kind == END)


def read_cell(reader, parts, cells):
    reader.take_word("cell")
    name = reader.take_name()
    if len(cells) == MOST_CELLS or name.value in [cell.name for cell in cells]:
        raise Wrong(TOLD_OR_FULL, name.place)
    reader.take_word("weight")
    weight = reader.take_number(0, MOST_WEIGHT)
    reader.take_word("finds")
    finds = reader.take_number(0, parts)
    reader.take_word("time")
    time = reader.take_number(1, MOST_TIME)
    reader.take_stop()
    return Cell(name.value, weight, finds, time)


def read_cells(reader, parts):
    cells = [read_cell(reader, parts, [])]
    while reader.is_word("cell"):
        cells.append(read_cell(reader, parts, cells))
    return cells


def read_member(reader, number_of, members):
    name = reader.take_name()
    if name.value not in number_of:
        raise Wrong(NO_CELL, name.place)
    if number_of[name.value] in members:
        raise Wrong(TOLD_OR_FULL, name.place)
    return number_of[name.value]


def read_team(reader, number_of, efforts_left):
    reader.take_word("team")
    place = reader.ahead().place
    efforts = reader.take_number(1, MOST_TEAM_EFFORTS)
    if efforts > efforts_left:
        raise Wrong(TOO_MANY_EFFORTS, place)
    reader.take_word("in")
    members = [read_member(reader, number_of, [])]
    while reader.ahead().kind != STOP:
        members.append(read_member(reader, number_of, members))
    reader.take_stop()
    return Team(efforts, members)


def read_teams(reader, cells):
    number_of = {}
    for number, cell in enumerate(cells):
        number_of[cell.name] = number
    teams = []
    while reader.is_word("team"):
        if len(teams) == MOST_TEAMS:
            raise Wrong(TOLD_OR_FULL, reader.ahead().place)
        together = sum([team.efforts for team in teams])
        teams.append(read_team(reader, number_of, MOST_EFFORTS_TOGETHER - together))
    return teams


def read_field(text):
    reader = Reader(text)
    reader.take_word("parts")
    parts = reader.take_number(LEAST_PARTS, MOST_PARTS)
    reader.take_stop()
    cells = read_cells(reader, parts)
    teams = read_teams(reader, cells)
    reader.take_end()
    return Field(parts, cells, teams)
