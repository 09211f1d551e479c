"""best: the row of the best k efforts, and the chance that they find."""

import unittest
from fractions import Fraction
from itertools import product

from helper import ask, cell, cells, last

THREE = "parts 10;" + cell("a", 5, 3) + cell("b", 7, 5) + cell("c", 2, 9)


def all_rows(many_cells, many):
    return [row for row in product(range(many + 1), repeat=many_cells) if sum(row) == many]


class Best(unittest.TestCase):
    def test_ordinary(self):
        self.assertEqual(last(("field", THREE), ("best", 1)), [0, 0, 1, 0, 1, 4])
        self.assertEqual(last(("field", THREE), ("best", 2)), [0, 0, 1, 1, 53, 140])
        self.assertEqual(last(("field", THREE), ("best", 5)), [0, 2, 2, 1, 24, 35])

    def test_by_what_was_done_in_vain_and_evidence(self):
        done = (("field", THREE), ("vain", 1, 2), ("evidence", 1, 2, [0]))
        self.assertEqual(last(*done, ("best", 3)), [0, 1, 1, 1, 137, 250])

    def test_time_is_nothing_to_it(self):
        text = "parts 10;" + cell("a", 5, 3, 20) + cell("b", 4, 3, 1)
        self.assertEqual(last(("field", text), ("best", 1)), [0, 1, 0, 1, 6])

    def test_none(self):
        self.assertEqual(last(("field", THREE), ("best", 0)), [0, 0, 0, 0, 0, 1])

    def test_of_equals_the_first(self):
        text = "parts 4;" + cells(3)
        rows = [last(("field", text), ("best", many))[1:4] for many in range(5)]
        self.assertEqual(rows, [[0, 0, 0], [1, 0, 0], [1, 1, 0], [1, 1, 1], [2, 1, 1]])

    def test_sixty_in_three_cells(self):
        given = last(("field", "parts 2;" + cells(3)), ("best", 60))
        self.assertEqual(given, [0, 20, 20, 20, 2 ** 20 - 1, 2 ** 20])

    def test_sixty_in_sixteen_cells(self):
        given = last(("field", "parts 2;" + cells(16)), ("best", 60))
        self.assertEqual(given, [0] + [4] * 12 + [3] * 4 + [59, 64])

    def test_a_cell_that_has_had_twenty_gets_none(self):
        text = "parts 100;" + cell("a", 1000, 1) + cell("b", 1, 1)
        self.assertEqual(last(("field", text), ("best", 22))[1:3], [20, 2])
        self.assertEqual(last(("field", text), ("vain", 0, 18), ("best", 5))[1:3], [2, 3])
        self.assertEqual(last(("field", text), ("vain", 0, 20), ("best", 5))[1:3], [0, 5])

    def test_such_as_add_nothing_go_to_the_first(self):
        text = "parts 4;" + cell("a", 3, 0) + cell("b", 0, 2) + cell("c", 1, 4)
        self.assertEqual(last(("field", text), ("best", 1)), [0, 0, 0, 1, 1, 4])
        self.assertEqual(last(("field", text), ("best", 10)), [0, 9, 0, 1, 1, 4])
        self.assertEqual(last(("field", text), ("best", 25)), [0, 20, 4, 1, 1, 4])
        self.assertEqual(last(("field", text), ("best", 50)), [0, 20, 20, 10, 1, 4])

    def test_finds_of_all_the_parts(self):
        self.assertEqual(last(("field", "parts 3;" + cell("a", 3, 3)), ("best", 2)), [0, 2, 1, 1])

    def test_as_many_as_can_be_made(self):
        given = ask(("field", "parts 2;" + cells(2)), ("vain", 0, 3), ("best", 37), ("best", 38))
        self.assertEqual(given[2][:3], [0, 17, 20])
        self.assertEqual(given[3], [-3])

    def test_it_is_only_asked(self):
        given = ask(("field", THREE), ("best", 5), ("best", 5), ("left",), ("vain", 0, 0))
        self.assertEqual(given[1], given[2])
        self.assertEqual(given[3:], [[0, 1, 1], [0, 0]])

    def test_no_efforts_find_with_a_greater_chance(self):
        texts = (
            THREE,
            "parts 7;" + cell("a", 3, 1) + cell("b", 9, 2) + cell("c", 1, 7),
            "parts 5;" + cell("a", 8, 1) + cell("b", 8, 1) + cell("c", 4, 2),
            "parts 9;" + cell("a", 0, 9) + cell("b", 6, 0) + cell("c", 2, 8),
        )
        for text in texts:
            done = [("field", text), ("vain", 1, 2)]
            for many in range(6):
                rows = all_rows(3, many)
                given = ask(*done, *[("would", row) for row in rows], ("best", many))
                greatest = max([Fraction(*answer[1:]) for answer in given[2:-1]])
                best = given[-1]
                self.assertEqual(sum(best[1:4]), many)
                self.assertEqual(Fraction(*best[4:]), greatest)
                self.assertEqual(given[2 + rows.index(tuple(best[1:4]))], [0] + best[4:])


if __name__ == "__main__":
    unittest.main()
