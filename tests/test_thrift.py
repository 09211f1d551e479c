"""thrift: the row of the best efforts of so much time, and the chance that they find."""

import unittest
from fractions import Fraction
from itertools import product

from helper import ask, cell, cells, each, last

TWO = "parts 10;" + cell("a", 5, 3, 2) + cell("b", 7, 5, 1)


class Thrift(unittest.TestCase):
    def test_ordinary(self):
        self.assertEqual(last(("field", TWO), ("thrift", 1)), [0, 0, 1, 7, 24])
        self.assertEqual(last(("field", TWO), ("thrift", 3)), [0, 0, 3, 49, 96])
        self.assertEqual(last(("field", TWO), ("thrift", 4)), [0, 1, 2, 9, 16])

    def test_after_efforts_and_evidence(self):
        done = (("field", TWO), ("vain", 1, 2), ("vain", 0, 1), ("back", 0, 1), ("evidence", 4, 2, [1]))
        self.assertEqual(last(*done, ("thrift", 1)), [0, 0, 1, 7, 34])
        self.assertEqual(last(*done, ("thrift", 2)), [0, 0, 2, 21, 68])
        self.assertEqual(last(*done, ("thrift", 3)), [0, 1, 1, 13, 34])

    def test_no_time(self):
        self.assertEqual(last(("field", TWO), ("thrift", 0)), [0, 0, 0, 0, 1])

    def test_too_little_time_for_any(self):
        self.assertEqual(last(("field", "parts 2;" + cell("a", 1, 1, 20)), ("thrift", 19)), [0, 0, 0, 1])
        self.assertEqual(last(("field", "parts 2;" + cell("a", 1, 1, 20)), ("thrift", 20)), [0, 1, 1, 2])

    def test_what_adds_most_by_its_time_is_not_always_in_it(self):
        text = "parts 2;" + cell("a", 10, 2, 3) + cell("b", 6, 2, 2) + cell("c", 6, 2, 2)
        self.assertEqual(last(("field", text), ("thrift", 3)), [0, 1, 0, 0, 5, 11])
        self.assertEqual(last(("field", text), ("thrift", 4)), [0, 0, 1, 1, 6, 11])
        self.assertEqual(last(("field", text), ("thrift", 5)), [0, 1, 0, 1, 8, 11])

    def test_a_time_of_100(self):
        self.assertEqual(last(("field", "parts 2;" + cell("a", 1, 1, 20)), ("thrift", 100)), [0, 5, 31, 32])
        self.assertEqual(last(("field", "parts 2;" + cell("a", 1, 1, 6)), ("thrift", 100))[1], 16)
        given = last(("field", "parts 2;" + cells(16)), ("thrift", 100))
        self.assertEqual(given, [0] + [6] * 12 + [7] * 4 + [505, 512])

    def test_no_cell_has_more_than_twenty(self):
        text = "parts 2;" + cells(1)
        found = [2 ** 20 - 1, 2 ** 20]
        self.assertEqual(last(("field", text), ("thrift", 100)), [0, 20] + found)
        self.assertEqual(last(("field", text), ("thrift", 20)), [0, 20] + found)
        self.assertEqual(last(("field", text), ("vain", 0, 15), ("thrift", 100)), [0, 5, 31, 32])
        self.assertEqual(last(("field", text), ("vain", 0, 20), ("thrift", 100)), [0, 0, 0, 1])
        both = "parts 100;" + cell("a", 1000, 1) + cell("b", 1, 1)
        self.assertEqual(last(("field", both), ("vain", 0, 17), ("thrift", 10))[1:3], [3, 7])

    def test_of_equal_chances_the_fewest_in_the_first_cell(self):
        text = "parts 4;" + cells(3)
        rows = [last(("field", text), ("thrift", time))[1:4] for time in range(5)]
        self.assertEqual(rows, [[0, 0, 0], [0, 0, 1], [0, 1, 1], [1, 1, 1], [1, 1, 2]])

    def test_of_equal_chances_not_the_least_time(self):
        text = "parts 2;" + cell("a", 2, 2, 1) + cell("b", 1, 2, 2) + cell("c", 1, 2, 2)
        self.assertEqual(last(("field", text), ("thrift", 4)), [0, 1, 0, 1, 3, 4])
        text = "parts 2;" + cell("a", 2, 2, 1) + cell("b", 1, 2, 1) + cell("c", 1, 2, 1) + cell("d", 1, 2, 9)
        self.assertEqual(last(("field", text), ("thrift", 2)), [0, 1, 0, 1, 0, 3, 5])
        text = "parts 2;" + cell("a", 2, 2, 2) + cell("b", 1, 2, 2) + cell("c", 1, 2, 2)
        self.assertEqual(last(("field", text), ("thrift", 4)), [0, 1, 0, 1, 3, 4])
        text = "parts 2;" + cell("a", 2, 2, 3) + cell("b", 1, 2, 2) + cell("c", 1, 2, 2)
        self.assertEqual(last(("field", text), ("thrift", 4)), [0, 0, 1, 1, 1, 2])

    def test_such_as_add_nothing_are_not_in_it(self):
        text = "parts 4;" + cell("a", 3, 0) + cell("b", 0, 2) + cell("c", 1, 4)
        self.assertEqual(last(("field", text), ("thrift", 100)), [0, 0, 0, 1, 1, 4])
        self.assertEqual(last(("field", text), ("vain", 2, 1), ("thrift", 100)), [0, 0, 0, 0, 0, 1])

    def test_it_is_only_asked(self):
        given = ask(("field", TWO), ("thrift", 9), ("thrift", 9), ("left",), ("counts",))
        self.assertEqual(given[1], given[2])
        self.assertEqual(given[3:], [[0, 1, 1], [0, 2, 0, 0, 10, 0]])

    def test_no_efforts_of_that_time_find_with_a_greater_chance(self):
        fields = (
            ((2, 1, 3), "parts 7;" + cell("a", 3, 1, 2) + cell("b", 9, 2, 1) + cell("c", 1, 7, 3)),
            ((2, 3, 2), "parts 5;" + cell("a", 8, 1, 2) + cell("b", 8, 1, 3) + cell("c", 8, 1, 2)),
            ((1, 2, 4), "parts 2;" + cell("a", 1, 1, 1) + cell("b", 2, 1, 2) + cell("c", 4, 1, 4)),
            ((1, 1, 1), "parts 9;" + cell("a", 0, 9, 1) + cell("b", 6, 0, 1) + cell("c", 2, 8, 1)),
        )
        for times, text in fields:
            done = [("field", text), ("vain", 1, 2)]
            for time in range(8):
                rows = [row for row in product(range(time + 1), repeat=3) if spent(row, times) <= time]
                given = each(*[("would", row) for row in rows], before=done)
                chances = [Fraction(*answer[1:]) for answer in given]
                # product tells rows with the fewest efforts in the first cell first.
                first = chances.index(max(chances))
                self.assertEqual(last(*done, ("thrift", time)), [0, *rows[first], *given[first][1:]], (text, time))


def spent(row, times):
    return sum([many * time for many, time in zip(row, times)])


if __name__ == "__main__":
    unittest.main()
