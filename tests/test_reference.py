"""The program beside a second, slower way to tell the same, on many made-up lines."""

import random
import re
import unittest
from fractions import Fraction

from helper import ask, pairs, to_bytes

RESERVED = ("parts", "cell", "weight", "finds", "time", "team", "in")


def pieces_of(text):
    """(place, piece) for each; a piece of None is wrong where it stands."""
    found = []
    for match in re.finditer(r"[a-z]+|[0-9]+|;|[^ \n]", text):
        piece = match.group()
        if not re.fullmatch(r"[a-z]{1,8}|0|[1-9][0-9]{0,3}|;", piece):
            piece = None
        found.append((match.start(), piece))
    return found + [(len(text), "")]


def shape(pieces):
    """One letter for each piece: its own sign for what's reserved, n for a name, 0 for a number, ? for what's wrong."""
    signs = {"parts": "P", "cell": "C", "weight": "W", "finds": "F", "time": "T", "team": "M", "in": "I", ";": ";"}
    out = ""
    for place, piece in pieces:
        if piece is None:
            out += "?"
        elif piece == "":
            out += "$"
        else:
            out += signs.get(piece, "0" if piece.isdigit() else "n")
    return out


def first_misplaced(signs):
    """How many signs can stand where they stand, by what may follow each state."""
    states = {
        "begin": {"P": "p1"}, "p1": {"0": "p2"}, "p2": {";": "p3"}, "p3": {"C": "c1"},
        "c1": {"n": "c2"}, "c2": {"W": "c3"}, "c3": {"0": "c4"}, "c4": {"F": "c5"}, "c5": {"0": "c6"},
        "c6": {"T": "c7"}, "c7": {"0": "c8"}, "c8": {";": "c9"}, "c9": {"C": "c1", "M": "m1", "$": "end"},
        "m1": {"0": "m2"}, "m2": {"I": "m3"}, "m3": {"n": "m4"}, "m4": {"n": "m4", ";": "m5"},
        "m5": {"M": "m1", "$": "end"},
    }
    state = "begin"
    for many, sign in enumerate(signs):
        if sign not in states[state]:
            return many
        state = states[state][sign]
    return None


def faults(pieces):
    """All (place, kind) of kinds 2 to 5, in pieces that can all stand where they stand."""
    found = []
    parts, cells, teams, members, before = 0, [], [], [], []
    for place, piece in pieces:
        statement = next((word for word in reversed(before) if word in ("parts", "cell", "team")), None)
        last = before[-1] if before else None
        if piece.isdigit():
            number = int(piece)
            ranges = {"parts": (2, 100), "weight": (0, 1000), "finds": (0, parts), "time": (1, 20), "team": (1, 12)}
            low, high = ranges[last]
            if not low <= number <= high:
                found.append((place, 4))
            if last == "parts":
                parts = number
            if last == "team":
                teams.append(number)
                if sum(teams) > 24:
                    found.append((place, 5))
        elif piece == "team":
            members = []
            if len(teams) == 6:
                found.append((place, 3))
        elif piece not in RESERVED and piece.isalpha():
            if statement == "cell":
                if piece in cells or len(cells) == 16:
                    found.append((place, 3))
                cells.append(piece)
            else:
                if piece not in cells:
                    found.append((place, 2))
                if piece in members:
                    found.append((place, 3))
                members.append(piece)
        before.append(piece)
    return found


def told_wrong(text):
    pieces = pieces_of(text)
    many = first_misplaced(shape(pieces))
    standing = pieces[:-1] if many is None else pieces[:many]
    found = faults(standing)
    if many is not None:
        found.append((pieces[many][0], 1))
    return min(found) if found else None


class Line:
    """What a line of calls has done so far, told by fractions."""

    def __init__(self):
        self.parts = None
        self.known = {}

    def begin(self, text):
        words = re.findall(r"[a-z]+|[0-9]+", text)
        self.parts = int(words[1])
        self.weights = [int(words[at + 3]) for at, word in enumerate(words) if word == "cell"]
        self.finds = [int(words[at + 5]) for at, word in enumerate(words) if word == "cell"]
        self.times = [int(words[at + 7]) for at, word in enumerate(words) if word == "cell"]
        self.names = [words[at + 1] for at, word in enumerate(words) if word == "cell"]
        self.had = [0] * len(self.weights)
        self.teams = []
        for efforts, told in re.findall(r"team\s*([0-9]+)\s*in\s([^;]*);", text):
            self.teams.append((int(efforts), [self.names.index(name) for name in told.split()]))
        numbers = re.sub(r"(?<=[a-z])(?=[0-9])|(?<=[0-9])(?=[a-z])", " ", text)
        lines = [" ".join(line.split()) + ";\n" for line in numbers.split(";")[:-1]]
        self.shown = "".join(lines)

    def mass(self, cell, efforts):
        return self.weights[cell] * Fraction(self.parts - self.finds[cell], self.parts) ** efforts

    def left(self):
        state = (self.parts, *self.weights, *self.finds, *self.had)
        if state not in self.known:
            self.known[state] = sum([self.mass(cell, efforts) for cell, efforts in enumerate(self.had)])
        return self.known[state]

    def adds(self, cell, before):
        """What an effort adds in a cell that has had so many before."""
        return self.mass(cell, before) * Fraction(self.finds[cell], self.parts) / self.left()

    def would(self, row):
        sums = Fraction(0)
        for cell, more in enumerate(row):
            for before in range(self.had[cell], self.had[cell] + more):
                sums += self.adds(cell, before)
        return sums

    def by_adds(self):
        """All efforts that can be made, the most adding first; those of a cell never add more than the one before."""
        left = []
        for cell, efforts in enumerate(self.had):
            left += [(-self.adds(cell, before), cell) for before in range(efforts, 20)]
        return sorted(left)

    def best(self, many):
        return self.row([cell for adds, cell in self.by_adds()[:many]])

    def row(self, order):
        return [order.count(cell) for cell in range(len(self.had))]

    def thrift(self, time):
        """For each time, cell by cell, the best beginning of a row that takes just so much."""
        kept = {0: (0, [])}
        for cell, had in enumerate(self.had):
            masses = [int(self.mass(cell, efforts) * self.parts ** 20) for efforts in range(had, 21)]
            more = {}
            for spent, (left, row) in kept.items():
                for many, mass in enumerate(masses):
                    then = spent + many * self.times[cell]
                    if then <= time:
                        choice = (left + mass, row + [many])
                        more[then] = min(more.get(then, choice), choice)
            kept = more
        return min(kept.values())[1]

    def takes(self, order):
        """The time when it's found, by the chance that it's then, and all the time if it isn't."""
        spent = 0
        expected = Fraction(0)
        not_found = Fraction(1)
        had = list(self.had)
        for cell in order:
            spent += self.times[cell]
            adds = self.adds(cell, had[cell])
            had[cell] += 1
            expected += adds * spent
            not_found -= adds
        return expected + not_found * spent

    def best_order(self, row):
        order = []
        had = list(self.had)
        left = list(row)
        while sum(left):
            open_cells = [cell for cell, many in enumerate(left) if many]
            cell = max(open_cells, key=lambda cell: (self.adds(cell, had[cell]) / self.times[cell], -cell))
            order.append(cell)
            had[cell] += 1
            left[cell] -= 1
        return order

    def dealt(self, order):
        """Whether each effort finds a team for it, each team's efforts handed on to others where that's needed."""
        slots = [cells for efforts, cells in self.teams for effort in range(efforts)]
        holder = [None] * len(slots)

        def place(effort, seen):
            for slot, cells in enumerate(slots):
                if order[effort] in cells and slot not in seen:
                    seen.add(slot)
                    if holder[slot] is None or place(holder[slot], seen):
                        holder[slot] = effort
                        return True
            return False

        return len(order) <= len(slots) and all([place(effort, set()) for effort in range(len(order))])

    def teams_best(self):
        """The first efforts of all, by what they add, that can be dealt with those before."""
        order = []
        closed = []
        for adds, cell in self.by_adds():
            if adds < 0 and cell not in closed:
                if self.dealt(order + [cell]):
                    order.append(cell)
                else:
                    closed.append(cell)
        return self.row(order)

    def answer(self, name, *given):
        if name in ("field", "where"):
            return self.text(name, given[0])
        if name == "clear":
            self.parts = None
            return [0]
        if self.parts is None:
            return [-20]
        return getattr(self, "answer_" + name)(*given)

    def text(self, name, text):
        wrong = told_wrong(text)
        if wrong:
            return [1, wrong[1], wrong[0]]
        if name == "where":
            return [0]
        self.begin(text)
        return [0, len(self.had), len(self.teams)]

    def answer_shown(self):
        return [0] + to_bytes(self.shown)

    def answer_vain(self, cell, many):
        if cell not in range(len(self.had)) or many not in range(21):
            return [-1]
        if self.had[cell] + many > 20:
            return [-3]
        self.had[cell] += many
        return [0, self.had[cell]]

    def answer_back(self, cell, many):
        if cell not in range(len(self.had)) or many not in range(21):
            return [-1]
        if self.had[cell] - many < 0:
            return [-3]
        self.had[cell] -= many
        return [0, self.had[cell]]

    def answer_evidence(self, a, b, cells):
        if a not in range(1001) or b not in range(1001) or set(cells) - set(range(len(self.had))):
            return [-1]
        weights = [weight * [b, a][cell in cells] for cell, weight in enumerate(self.weights)]
        if [weight for weight in weights if weight > 10 ** 12]:
            return [-3]
        self.weights = weights
        return [0]

    def answer_chances(self):
        if self.left() == 0:
            return [-6]
        return [0] + pairs([self.mass(cell, efforts) / self.left() for cell, efforts in enumerate(self.had)])

    def answer_left(self):
        if sum(self.weights) == 0:
            return [-6]
        return [0] + pairs([Fraction(self.left()) / sum(self.weights)])

    def answer_would(self, row):
        if len(row) != len(self.had) or set(row) - set(range(21)):
            return [-1]
        if [1 for before, more in zip(self.had, row) if before + more > 20]:
            return [-3]
        return [-6] if self.left() == 0 else [0] + pairs([self.would(row)])

    def answer_best(self, many):
        if many not in range(61):
            return [-1]
        if many > sum([20 - efforts for efforts in self.had]):
            return [-3]
        if self.left() == 0:
            return [-6]
        row = self.best(many)
        return [0] + row + pairs([self.would(row)])

    def answer_curve(self, many):
        answer = self.answer_best(many)
        if answer[0] < 0:
            return answer
        return [0] + pairs([self.would(self.best(fewer)) for fewer in range(many + 1)])

    def answer_price(self, many):
        if many not in range(1, 60):
            return [-1]
        answer = self.answer_best(many + 1)
        if answer[0] < 0:
            return answer
        return [0] + pairs([-adds for adds, cell in self.by_adds()[many - 1:many + 1]])

    def answer_thrift(self, time):
        if time not in range(101):
            return [-1]
        if self.left() == 0:
            return [-6]
        row = self.thrift(time)
        return [0] + row + pairs([self.would(row)])

    def answer_order(self, row):
        answer = self.answer_would(row)
        if answer[0] < 0:
            return answer
        order = self.best_order(row)
        return [0, len(order)] + order + pairs([self.takes(order)])

    def answer_takes(self, order):
        if len(order) > 60 or set(order) - set(range(len(self.had))):
            return [-1]
        if max(self.row(order)) > 20:
            return [-3]
        answer = self.answer_would(self.row(order))
        if answer[0] < 0:
            return answer
        return [0] + pairs([self.takes(order)])

    def answer_teams(self):
        if self.left() == 0:
            return [-6]
        row = self.teams_best()
        return [0] + row + pairs([self.would(row)])

    def answer_can(self, row):
        if len(row) != len(self.had) or set(row) - set(range(21)):
            return [-1]
        return [0, int(self.dealt([cell for cell, many in enumerate(row) for effort in range(many)]))]

    def answer_cells(self):
        answer = [0, len(self.had)]
        for cell, name in enumerate(self.names):
            answer += [len(name)] + to_bytes(name)
            answer += [self.weights[cell], self.finds[cell], self.times[cell], self.had[cell]]
        return answer

    def answer_counts(self):
        efforts = sum([efforts for efforts, cells in self.teams])
        return [0, len(self.had), len(self.teams), efforts, self.parts, sum(self.had)]


class Maker:
    """Lines made up from a seed, so that each run tests the same."""

    def __init__(self, seed):
        self.chance = random.Random(seed)

    def some(self, *choices):
        return self.chance.choice(choices)

    def number(self, low, high):
        return self.some(low, high, *[self.chance.randint(low, high) for choice in range(4)])

    def text(self):
        """Of small numbers, many are equal."""
        small = self.some(True, False)
        parts = self.number(2, 4 if small else 100)
        weight, time = (3, 3) if small else (1000, 20)
        names = self.chance.sample([a + b for a in ("", "q", "longers") for b in "abcdefgh"], self.number(1, 16))
        cells = [
            f"cell {name} weight {self.number(0, weight)} finds {self.number(0, parts)} time {self.number(1, time)};"
            for name in names
        ]
        teams = [
            f"team {self.number(1, 7)} in {' '.join(self.chance.sample(names, self.number(1, len(names))))};"
            for team in range(self.number(0, 6))
        ]
        return self.some("", " ", "\n").join([f"parts {parts};"] + cells + teams)

    def fault(self):
        """A right text in which numbers or names are others, or cells or teams told once more."""
        text = self.text()
        sorts = (r"[0-9]+", r"[a-z]+(?= weight)", r"(?<=in )[a-z]+", r"[a-z]+(?=;)", r"cell[^;]+;", r"team[^;]+;")
        sort = self.some(*sorts)
        found = list(re.finditer(sort, text))
        if not found:
            return text
        match = self.some(*found)
        other = self.some(*found).group() if sort != r"[0-9]+" else str(self.number(0, 25))
        if ";" in other:
            other = (match.group() + other) * self.number(1, 4)
        return text[:match.start()] + other + text[match.end():]

    def wrong_text(self):
        text = self.text()
        for change in range(self.number(1, 3)):
            pieces = re.findall(r"[a-z]+|[0-9]+|;|\s+", text)
            at = self.chance.randrange(len(pieces))
            other = self.some(
                "", ";", " ", "0", "1", "13", "21", "101", "1001", "99999", "02", "a", "zz", "abcdefghi", "cell",
                "team", "in", "weight", "!", "A", *self.chance.sample(pieces, min(5, len(pieces))),
            )
            pieces[at] = self.some(other, pieces[at] + " " + other, other + pieces[at])
            text = "".join(pieces)
        return text[:self.some(len(text), len(text), self.chance.randrange(len(text) + 1))]

    def short_wrong_text(self):
        pieces = "parts 2 ; cell a weight 0 finds 1 time 1 ; team 1 in a ;".split()
        return " ".join([self.some(*[piece] * 20, "b", "1", ";", "cell", "team") for piece in pieces])

    def any_text(self):
        return self.some(self.fault, self.fault, self.wrong_text, self.short_wrong_text)()

    def row(self, cells):
        return [self.some(0, 0, 1, 2, self.number(0, 20)) for cell in range(self.some(*[cells] * 9, cells + 1))]

    def few(self, cells):
        return [self.some(0, 0, 0, 1, 2, 3) for cell in range(cells)]

    def order(self, cells):
        cells_told = [self.chance.randrange(cells) for effort in range(self.number(0, self.some(5, 60)))]
        return cells_told + self.some(*[[]] * 9, [cells])

    def done(self, cells):
        cell = self.number(-1, cells) if self.number(0, 9) == 0 else self.chance.randrange(cells)
        return self.some(
            ("vain", cell, self.number(-1, 7)), ("vain", cell, self.number(0, 21)), ("back", cell, self.number(-1, 5)),
            ("evidence", self.number(0, 1000), self.number(1, 30), self.row(cells)[:self.number(0, 5)]),
            ("evidence", self.number(1, 4), self.number(1, 4), [cell, cell]), ("evidence", 1000, 1000, []),
        )

    def asked(self, cells):
        return self.some(
            ("shown",), ("chances",), ("left",), ("would", self.row(cells)), ("best", self.number(-1, 61)),
            ("best", self.number(0, 10)), ("curve", self.number(-1, self.some(7, 61))), ("price", self.number(0, 9)),
            ("price", self.number(0, 60)), ("thrift", self.number(-1, self.some(30, 101))),
            ("order", self.row(cells)), ("takes", self.order(cells)), ("teams",), ("can", self.row(cells)),
            ("can", self.few(cells)), ("teams",), ("can", self.few(cells)), ("cells",), ("counts",),
        )

    def call(self, cells):
        return self.some(self.done, self.asked)(cells)

    def line(self):
        calls = [self.call(3) for many in range(self.number(0, 2))]
        for field in range(self.number(1, 2)):
            text = self.text()[:1500]
            calls.append(("field", text))
            cells = max(1, text.count("cell"))
            calls += [self.call(cells) for many in range(self.number(5, 20))]
            calls.append((self.some("field", "where"), self.some(self.wrong_text, self.fault)()[:1500]))
            calls += [("chances",), ("left",), ("shown",)] + self.some([], [], [("clear",), ("counts",)])
        best = [at for at, call in enumerate(calls) if call[0] in ("best", "curve", "price", "thrift")]
        return [call for at, call in enumerate(calls) if at not in best[12:]]


class BesideTheReference(unittest.TestCase):
    def test_lines(self):
        for seed in range(400):
            calls = Maker(seed).line()
            reference = Line()
            expected = [reference.answer(*call) for call in calls]
            for call, answer, other in zip(calls, ask(*calls), expected, strict=True):
                self.assertEqual(answer, other, (seed, call))

    def test_texts(self):
        for seed in range(3000):
            maker = Maker(seed)
            text = maker.any_text()[:1500]
            wrong = told_wrong(text)
            expected = [1, wrong[1], wrong[0]] if wrong else [0]
            self.assertEqual(ask(("where", text)), [expected], text)


if __name__ == "__main__":
    unittest.main()
