"""curve and price: what the best efforts find, one after another."""

import unittest
from fractions import Fraction

from helper import ask, cell, cells, fractions, last, pairs

TWO = "parts 10;" + cell("a", 5, 3, 2) + cell("b", 7, 5, 1)
NOTHING_FOUND = "parts 4;" + cell("a", 3, 0) + cell("b", 0, 2) + cell("c", 1, 4)


class Curve(unittest.TestCase):
    def test_ordinary(self):
        self.assertEqual(last(("field", TWO), ("curve", 3)), [0, 0, 1, 7, 24, 7, 16, 9, 16])

    def test_after_efforts_and_evidence(self):
        done = (("field", TWO), ("vain", 1, 2), ("vain", 0, 1), ("back", 0, 1), ("evidence", 4, 2, [1]))
        self.assertEqual(last(*done, ("curve", 2)), [0, 0, 1, 7, 34, 13, 34])

    def test_none(self):
        self.assertEqual(last(("field", TWO), ("curve", 0)), [0, 0, 1])
        self.assertEqual(last(("field", TWO), ("vain", 0, 20), ("vain", 1, 20), ("curve", 0)), [0, 0, 1])

    def test_sixty(self):
        given = last(("field", "parts 2;" + cells(3)), ("curve", 60))
        expected = []
        for efforts in range(61):
            rest = efforts % 3
            left = rest * Fraction(1, 2) ** (efforts // 3 + 1) + (3 - rest) * Fraction(1, 2) ** (efforts // 3)
            expected.append(1 - left / 3)
        self.assertEqual(given, [0] + pairs(expected))

    def test_sixteen_cells(self):
        given = last(("field", "parts 2;" + cells(16)), ("curve", 17))
        self.assertEqual(given, [0] + pairs([Fraction(efforts, 32) for efforts in range(17)] + [Fraction(33, 64)]))

    def test_one_cell(self):
        given = last(("field", "parts 2;" + cells(1)), ("curve", 20))
        self.assertEqual(given, [0] + pairs([1 - Fraction(1, 2) ** efforts for efforts in range(21)]))

    def test_such_as_add_nothing(self):
        self.assertEqual(last(("field", NOTHING_FOUND), ("curve", 4)), [0, 0, 1] + [1, 4] * 4)
        self.assertEqual(last(("field", NOTHING_FOUND), ("vain", 2, 1), ("curve", 4)), [0] + [0, 1] * 5)

    def test_a_cell_that_has_had_twenty_gets_none(self):
        text = "parts 100;" + cell("a", 1000, 1) + cell("b", 1, 1)
        rows = ([0, 0], [1, 0], [1, 1], [1, 2])
        given = ask(("field", text), ("vain", 0, 19), *[("would", row) for row in rows], ("curve", 3), ("curve", 22))
        self.assertEqual(given[6][1:], [number for answer in given[2:6] for number in answer[1:]])
        self.assertEqual(given[7], [-3])

    def test_as_best_of_each_number(self):
        done = (("field", TWO), ("vain", 0, 3), ("evidence", 5, 1, [0]))
        given = ask(*done, *[("best", many) for many in range(11)], ("curve", 10))
        self.assertEqual(given[-1][1:], [number for answer in given[3:-1] for number in answer[3:]])

    def test_it_is_only_asked(self):
        given = ask(("field", TWO), ("curve", 5), ("curve", 5), ("left",), ("counts",))
        self.assertEqual(given[1], given[2])
        self.assertEqual(given[3:], [[0, 1, 1], [0, 2, 0, 0, 10, 0]])


class Price(unittest.TestCase):
    def test_ordinary(self):
        self.assertEqual(last(("field", TWO), ("price", 1)), [0, 7, 24, 7, 48])
        self.assertEqual(last(("field", TWO), ("price", 2)), [0, 7, 48, 1, 8])

    def test_after_efforts_and_evidence(self):
        done = (("field", TWO), ("vain", 1, 2), ("vain", 0, 1), ("back", 0, 1), ("evidence", 4, 2, [1]))
        self.assertEqual(last(*done, ("price", 1)), [0, 7, 34, 3, 17])

    def test_of_equals(self):
        self.assertEqual(last(("field", "parts 4;" + cells(2)), ("price", 1)), [0, 1, 8, 1, 8])
        self.assertEqual(last(("field", "parts 4;" + cells(2)), ("price", 2)), [0, 1, 8, 3, 32])

    def test_fifty_nine(self):
        given = last(("field", "parts 2;" + cells(3)), ("price", 59))
        self.assertEqual(given, [0] + [1, 3 * 2 ** 20] * 2)

    def test_sixteen_cells(self):
        given = last(("field", "parts 2;" + cells(16)), ("price", 16))
        self.assertEqual(given, [0, 1, 32, 1, 64])

    def test_as_many_as_can_be_made(self):
        given = ask(("field", "parts 2;" + cells(1)), ("price", 19), ("price", 20), ("vain", 0, 18), ("price", 1))
        self.assertEqual(given[1], [0, 1, 2 ** 19, 1, 2 ** 20])
        self.assertEqual(given[2], [-3])
        self.assertEqual(given[4], [0, 1, 2, 1, 4])

    def test_such_as_add_nothing(self):
        self.assertEqual(last(("field", NOTHING_FOUND), ("price", 1)), [0, 1, 4, 0, 1])
        self.assertEqual(last(("field", NOTHING_FOUND), ("price", 2)), [0, 0, 1, 0, 1])

    def test_as_steps_of_the_curve(self):
        done = (("field", TWO), ("vain", 0, 3), ("evidence", 5, 1, [0]))
        given = ask(*done, ("curve", 10), *[("price", many) for many in range(1, 10)])
        curve = fractions(given[3][1:])
        steps = [after - before for before, after in zip(curve, curve[1:])]
        self.assertEqual(given[4:], [[0] + pairs(steps[many - 1:many + 1]) for many in range(1, 10)])


if __name__ == "__main__":
    unittest.main()
