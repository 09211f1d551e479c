"""What a field is made of, as its text told it."""


class Cell:
    def __init__(self, name, weight, finds, time):
        self.name = name
        self.weight = weight
        self.finds = finds
        self.time = time


class Team:
    def __init__(self, efforts, cells):
        self.efforts = efforts
        self.cells = cells


class Field:
    def __init__(self, parts, cells, teams):
        self.parts = parts
        self.cells = cells
        self.teams = teams
