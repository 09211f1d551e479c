"""teams and can: what the teams can do that can't be everywhere."""

import unittest
from fractions import Fraction
from itertools import permutations, product

from helper import ask, cell, cells, each, last, names

# b adds most, then c, then a, where only the first team can be: so the second has to be in b, and the third in c.
CHAIN = (
    "parts 2;" + cell("a", 1, 2) + cell("b", 9, 2) + cell("c", 4, 2)
    + "team 1 in a b; team 1 in b c; team 1 in c;"
)
HALF_CHAIN = CHAIN.replace("finds 2", "finds 1")
TWO = "parts 10;" + cell("a", 5, 3, 2) + cell("b", 7, 5, 1)


class Teams(unittest.TestCase):
    def row(self, text, *done):
        """The row alone; the chance behind it is held against what would tells."""
        given = last(("field", text), *done, ("teams",))
        row = given[1:-2]
        self.assertEqual(last(("field", text), *done, ("would", row)), [0] + given[-2:])
        self.assertEqual(last(("field", text), *done, ("can", row)), [0, 1])
        return row

    def test_ordinary(self):
        self.assertEqual(last(("field", TWO + "team 3 in a b;"), ("teams",)), [0, 1, 2, 9, 16])
        self.assertEqual(last(("field", TWO + "team 3 in a;"), ("teams",)), [0, 3, 0, 219, 800])
        self.assertEqual(last(("field", TWO + "team 2 in b; team 1 in a;"), ("teams",)), [0, 1, 2, 9, 16])
        self.assertEqual(last(("field", TWO + "team 1 in b; team 2 in a;"), ("teams",)), [0, 2, 1, 121, 240])

    def test_after_efforts_and_evidence(self):
        done = (("vain", 1, 2), ("vain", 0, 1), ("back", 0, 1), ("evidence", 4, 2, [1]))
        self.assertEqual(last(("field", TWO + "team 2 in a b;"), *done, ("teams",)), [0, 1, 1, 13, 34])
        self.assertEqual(last(("field", TWO + "team 2 in b;"), *done, ("teams",)), [0, 0, 2, 21, 68])

    def test_no_teams(self):
        self.assertEqual(last(("field", TWO), ("teams",)), [0, 0, 0, 0, 1])
        self.assertEqual(last(("field", "parts 2;" + cells(16)), ("teams",)), [0] + [0] * 16 + [0, 1])

    def test_cells_without_a_team_get_none(self):
        self.assertEqual(self.row("parts 2;" + cell("a", 1000) + cell("b") + "team 4 in b;"), [0, 4])

    def test_earlier_efforts_are_dealt_anew(self):
        sure = "parts 2;" + cell("a", 9, 2) + cell("b", 1, 2)
        self.assertEqual(self.row(sure + "team 1 in a b; team 1 in a;"), [1, 1])
        self.assertEqual(self.row(sure + "team 1 in a; team 1 in a b;"), [1, 1])
        self.assertEqual(self.row(CHAIN), [1, 1, 1])
        self.assertEqual(self.row(HALF_CHAIN), [0, 2, 1])
        self.assertEqual(self.row(HALF_CHAIN, ("vain", 1, 1), ("vain", 2, 2)), [0, 2, 1])
        self.assertEqual(self.row(HALF_CHAIN, ("vain", 1, 2), ("evidence", 2, 1, [0])), [1, 1, 1])

    def test_the_order_in_which_teams_are_told_is_nothing(self):
        start = CHAIN.index("team")
        teams = CHAIN[start:].replace("; ", ";\n").split("\n")
        for told in permutations(teams):
            self.assertEqual(self.row(CHAIN[:start] + "".join(told)), [1, 1, 1])
            self.assertEqual(self.row(HALF_CHAIN[:start] + "".join(told)), [0, 2, 1])

    def test_of_equals_the_first(self):
        self.assertEqual(self.row("parts 4;" + cells(3) + "team 1 in c b a;"), [1, 0, 0])
        self.assertEqual(self.row("parts 4;" + cells(3) + "team 2 in c b a;"), [1, 1, 0])
        self.assertEqual(self.row("parts 4;" + cells(3) + "team 1 in c b; team 1 in b;"), [0, 1, 1])
        self.assertEqual(self.row("parts 4;" + cells(3) + "team 4 in b c;"), [0, 2, 2])

    def test_it_ends_when_none_adds_anything(self):
        text = "parts 4;" + cell("a", 3, 0) + cell("b", 0, 2) + cell("c", 1, 4) + "team 12 in a b c;"
        self.assertEqual(last(("field", text), ("teams",)), [0, 0, 0, 1, 1, 4])
        self.assertEqual(last(("field", text), ("vain", 2, 1), ("teams",)), [0, 0, 0, 0, 0, 1])

    def test_what_adds_nothing_stops_no_other(self):
        text = "parts 4;" + cell("a", 3, 0) + cell("b", 1, 1) + "team 2 in a; team 3 in b;"
        self.assertEqual(self.row(text), [0, 3])

    def test_24_efforts(self):
        both = "team 12 in a b; team 12 in b a;"
        self.assertEqual(self.row("parts 2;" + cells(2) + both), [12, 12])
        self.assertEqual(self.row("parts 100;" + cell("a", 1000) + cell("b") + both), [20, 4])
        self.assertEqual(self.row("parts 100;" + cell("a", 1000) + cell("b") + "team 12 in a; team 12 in b;"), [12, 12])

    def test_24_efforts_in_one_cell(self):
        text = "parts 2;" + cells(1) + "team 12 in a; team 12 in a;"
        self.assertEqual(last(("field", text), ("teams",)), [0, 20, 2 ** 20 - 1, 2 ** 20])
        self.assertEqual(self.row(text, ("vain", 0, 7)), [13])
        self.assertEqual(self.row(text, ("vain", 0, 20)), [0])

    def test_efforts_in_vain_take_nothing_from_the_teams(self):
        text = "parts 100;" + cell("a", 1000) + cell("b") + "team 12 in a b;"
        self.assertEqual(self.row(text, ("vain", 0, 8)), [12, 0])
        self.assertEqual(self.row(text, ("vain", 0, 9)), [11, 1])
        self.assertEqual(self.row(text, ("vain", 0, 20), ("vain", 1, 15)), [0, 5])

    def test_sixteen_cells_and_six_teams(self):
        told = names(16)
        teams = "".join([f"team 4 in {' '.join(told[3 * team:3 * team + 4])};" for team in range(5)])
        text = "parts 2;" + cells(16) + teams + "team 4 in " + " ".join(told) + ";"
        self.assertEqual(self.row(text), [2] * 7 + [1, 1, 2] + [1] * 6)

    def test_it_is_only_asked(self):
        given = ask(("field", CHAIN), ("teams",), ("teams",), ("left",), ("counts",), ("can", [1, 1, 1]))
        self.assertEqual(given[1], given[2])
        self.assertEqual(given[3:], [[0, 1, 1], [0, 3, 3, 3, 2, 0], [0, 1]])

    def test_none_that_the_teams_can_make_find_with_a_greater_chance(self):
        told = (
            "team 1 in a b; team 1 in b c; team 1 in c;", "team 2 in a; team 1 in a b c;", "team 3 in b c;", "",
            "team 1 in a c; team 2 in c b;", "team 1 in b; team 1 in b; team 1 in b a; team 1 in a;",
        )
        fields = (
            "parts 7;" + cell("a", 3, 1) + cell("b", 9, 2) + cell("c", 1, 7),
            "parts 5;" + cell("a", 8, 1) + cell("b", 8, 1) + cell("c", 8, 1),
            "parts 2;" + cell("a", 1, 1) + cell("b", 9, 1) + cell("c", 4, 1),
            "parts 9;" + cell("a", 0, 9) + cell("b", 6, 0) + cell("c", 2, 8),
        )
        rows = list(product(range(5), repeat=3))
        for text in [cells_told + teams for cells_told in fields for teams in told]:
            done = [("field", text), ("vain", 2, 1)]
            can = each(*[("can", row) for row in rows], before=done)
            would = each(*[("would", row) for row in rows], before=done)
            best = last(*done, ("teams",))
            chances = [Fraction(*found[1:]) for found, made in zip(would, can) if made == [0, 1]]
            self.assertEqual(max(chances), Fraction(*best[-2:]), text)
            self.assertEqual(can[rows.index(tuple(best[1:4]))], [0, 1], text)


class Can(unittest.TestCase):
    def can(self, text, *rows):
        return [answer[1] for answer in ask(("field", text), *[("can", row) for row in rows])[1:] if answer[0] == 0]

    def test_one_team(self):
        text = "parts 2;" + cells(3) + "team 3 in a c;"
        rows = ([0, 0, 0], [3, 0, 0], [0, 0, 3], [1, 0, 2], [2, 0, 2], [4, 0, 0], [0, 1, 0], [1, 1, 1])
        self.assertEqual(self.can(text, *rows), [1, 1, 1, 1, 0, 0, 0, 0])

    def test_no_teams(self):
        self.assertEqual(self.can("parts 2;" + cells(2), [0, 0], [0, 1], [1, 0]), [1, 0, 0])

    def test_cells_that_overlap(self):
        rows = ([1, 1, 1], [0, 2, 1], [0, 1, 2], [1, 0, 2], [2, 0, 0], [0, 3, 0], [0, 0, 3], [1, 2, 0], [1, 1, 0])
        self.assertEqual(self.can(CHAIN, *rows), [1, 1, 1, 1, 0, 0, 0, 0, 1])

    def test_a_team_of_several_efforts_in_several_cells(self):
        text = "parts 2;" + cells(3) + "team 3 in a b; team 2 in b c;"
        rows = ([1, 3, 1], [3, 0, 2], [3, 2, 0], [0, 5, 0], [0, 4, 1], [1, 2, 3], [4, 0, 0], [3, 1, 2], [2, 2, 1])
        self.assertEqual(self.can(text, *rows), [1, 1, 1, 1, 1, 0, 0, 0, 1])

    def test_24_efforts(self):
        text = "parts 2;" + cells(2) + "team 12 in a b; team 12 in b;"
        rows = ([12, 12], [4, 20], [5, 20], [13, 0], [12, 13], [0, 20], [20, 4], [20, 20])
        self.assertEqual(self.can(text, *rows), [1, 1, 0, 0, 0, 1, 0, 0])

    def test_sixteen_cells_and_six_teams(self):
        told = names(16)
        teams = "".join([f"team 4 in {told[team]} {told[15 - team]};" for team in range(6)])
        full = [4] * 6 + [0] * 10
        other = [0] * 10 + [4] * 6
        mixed = [1] * 6 + [0] * 4 + [3] * 6
        beyond = [1] * 5 + [2] + [0] * 4 + [3] * 6
        middle = [0] * 7 + [1] + [0] * 8
        text = "parts 2;" + cells(16) + teams
        self.assertEqual(self.can(text, full, other, mixed, beyond, middle, [20] * 16), [1, 1, 1, 0, 0, 0])

    def test_efforts_in_vain_take_nothing_from_the_teams(self):
        given = ask(
            ("field", "parts 2;" + cells(2) + "team 12 in a;"), ("vain", 0, 20), ("can", [12, 0]), ("can", [13, 0]),
        )
        self.assertEqual(given[2:], [[0, 1], [0, 0]])

    def test_while_nothing_is_left(self):
        given = ask(("field", CHAIN), ("evidence", 0, 0, []), ("can", [1, 1, 1]), ("can", [2, 0, 0]))
        self.assertEqual(given[2:], [[0, 1], [0, 0]])

    def test_against_all_dealings(self):
        fields = (
            ((1, (0, 1)), (1, (1, 2)), (1, (2,))),
            ((2, (0, 2)), (1, (1,)), (1, (0, 1))),
            ((1, (0, 1, 2)), (3, (1,))),
            ((1, (0,)), (1, (0,)), (1, (0, 1)), (1, (2, 1))),
        )
        for teams in fields:
            text = "parts 2;" + cells(3)
            for efforts, where in teams:
                text += f"team {efforts} in {' '.join(['abc'[number] for number in where])};"
            rows = list(product(range(5), repeat=3))
            given = each(*[("can", row) for row in rows], before=[("field", text)])
            made = all_dealt(teams)
            self.assertEqual(given, [[0, int(row in made)] for row in rows], text)


def all_dealt(teams):
    """Every row that comes about if each of the teams' efforts is made in one of its cells, or isn't made."""
    made = {(0, 0, 0)}
    for efforts, where in teams:
        for effort in range(efforts):
            more = {tuple([row[0] + (at == 0), row[1] + (at == 1), row[2] + (at == 2)]) for row in made for at in where}
            made |= more
    return made


if __name__ == "__main__":
    unittest.main()
