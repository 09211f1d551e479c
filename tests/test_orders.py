"""order and takes: the best order of a row of efforts, and the expected time of any."""

import unittest
from fractions import Fraction
from itertools import permutations

from helper import ask, cell, cells, each, last

TWO = "parts 10;" + cell("a", 5, 3, 2) + cell("b", 7, 5, 1)
DONE = (("field", TWO), ("vain", 1, 2), ("vain", 0, 1), ("back", 0, 1), ("evidence", 4, 2, [1]))


class Takes(unittest.TestCase):
    def test_ordinary(self):
        self.assertEqual(last(("field", TWO), ("takes", [0])), [0, 2, 1])
        self.assertEqual(last(("field", TWO), ("takes", [0, 1])), [0, 23, 8])
        self.assertEqual(last(("field", TWO), ("takes", [1, 0])), [0, 29, 12])
        self.assertEqual(last(("field", TWO), ("takes", [1, 1, 1, 0, 1])), [0, 347, 96])

    def test_after_efforts_and_evidence(self):
        self.assertEqual(last(*DONE, ("takes", [1, 0])), [0, 44, 17])
        self.assertEqual(last(*DONE, ("takes", [0, 1])), [0, 48, 17])

    def test_no_efforts(self):
        self.assertEqual(last(("field", TWO), ("takes", [])), [0, 0, 1])

    def test_sixty_cells(self):
        given = last(("field", "parts 2;" + cells(3)), ("takes", [0, 1, 2] * 20))
        expected = 5 * (1 - Fraction(1, 2) ** 20)
        self.assertEqual(given, [0, *expected.as_integer_ratio()])
        self.assertEqual(last(("field", "parts 2;" + cells(3)), ("takes", [0, 1, 2] * 20 + [0])), [-1])

    def test_sixteen_cells(self):
        given = last(("field", "parts 3;" + cell("z", 0) + cells(15)), ("takes", list(range(16))))
        self.assertEqual(given, [0, 41, 3])

    def test_what_finds_nothing_takes_its_time(self):
        text = "parts 3;" + cell("a", 1, 0, 7) + cell("b", 0, 3, 20) + cell("c", 1, 1, 2)
        self.assertEqual(last(("field", text), ("takes", [0, 0, 1, 0, 1])), [0, 61, 1])
        self.assertEqual(last(("field", text), ("takes", [2, 0])), [0, 47, 6])

    def test_behind_what_surely_finds_nothing_counts(self):
        text = "parts 3;" + cell("a", 4, 3, 5) + cell("b", 0, 1, 20)
        self.assertEqual(last(("field", text), ("takes", [0, 1, 0, 0])), [0, 5, 1])
        self.assertEqual(last(("field", text), ("takes", [1, 0, 1])), [0, 25, 1])

    def test_twenty_together_with_those_in_vain(self):
        given = ask(("field", TWO), ("vain", 0, 15), ("takes", [0] * 5), ("takes", [0] * 6))
        self.assertEqual((given[2][0], given[3]), (0, [-3]))

    def test_it_is_only_asked(self):
        given = ask(("field", TWO), ("takes", [1, 0]), ("takes", [1, 0]), ("left",), ("counts",))
        self.assertEqual(given[1], given[2])
        self.assertEqual(given[3:], [[0, 1, 1], [0, 2, 0, 0, 10, 0]])


class Order(unittest.TestCase):
    def order(self, text, row, *done):
        """The cells in the best order, whose expected time is held against what takes tells."""
        given = last(("field", text), *done, ("order", row))
        many = sum(row)
        self.assertEqual(given[:2], [0, many])
        order = given[2:2 + many]
        if many <= 60:
            self.assertEqual(last(("field", text), *done, ("takes", order)), [0] + given[2 + many:])
        return order

    def test_ordinary(self):
        self.assertEqual(last(("field", TWO), ("order", [1, 1])), [0, 2, 1, 0, 29, 12])
        self.assertEqual(last(("field", TWO), ("order", [1, 4])), [0, 5, 1, 1, 1, 0, 1, 347, 96])
        self.assertEqual(self.order(TWO, [2, 3]), [1, 1, 1, 0, 0])

    def test_after_efforts_and_evidence(self):
        self.assertEqual(last(*DONE, ("order", [1, 1])), [0, 2, 1, 0, 44, 17])
        self.assertEqual(last(*DONE, ("order", [2, 3]))[:7], [0, 5, 1, 1, 0, 0, 1])

    def test_no_efforts(self):
        self.assertEqual(last(("field", TWO), ("order", [0, 0])), [0, 0, 0, 1])

    def test_by_its_time_not_by_what_it_adds(self):
        text = "parts 2;" + cell("a", 9, 1, 10) + cell("b", 1, 1, 1)
        self.assertEqual(self.order(text, [1, 1]), [1, 0])
        self.assertEqual(self.order(text, [1, 2]), [1, 0, 1])

    def test_times_that_differ_by_little(self):
        text = "parts 2;" + cell("a", 19, 1, 20) + cell("b", 18, 1, 19) + cell("c", 17, 1, 18)
        self.assertEqual(self.order(text, [1, 1, 1]), [0, 1, 2])
        text = "parts 2;" + cell("a", 18, 1, 19) + cell("b", 19, 1, 20) + cell("c", 17, 1, 18)
        self.assertEqual(self.order(text, [1, 1, 1]), [1, 0, 2])
        text = "parts 2;" + cell("a", 950, 1, 19) + cell("b", 851, 1, 17) + cell("c", 350, 1, 7)
        self.assertEqual(self.order(text, [1, 1, 1]), [1, 0, 2])

    def test_of_equals_the_lesser_cell(self):
        self.assertEqual(self.order("parts 4;" + cells(2), [2, 2]), [0, 1, 0, 1])
        self.assertEqual(self.order("parts 4;" + cell("a", 6, 1, 2) + cell("b", 3, 1, 1), [1, 1]), [0, 1])
        self.assertEqual(self.order("parts 4;" + cell("a", 3, 1, 1) + cell("b", 6, 1, 2), [1, 1]), [0, 1])
        self.assertEqual(self.order("parts 2;" + cell("a", 1) + cell("b", 2), [2, 3]), [1, 0, 1, 0, 1])
        for time in range(1, 21):
            text = "parts 2;" + cell("a", time, 1, time) + cell("b", 1, 1, 1) + cell("c", 20, 1, 20)
            self.assertEqual(self.order(text, [1, 1, 1]), [0, 1, 2])

    def test_such_as_add_nothing_go_last_the_lesser_cell_first(self):
        text = "parts 4;" + cell("a", 3, 0, 1) + cell("b", 0, 2, 9) + cell("c", 1, 4, 20)
        self.assertEqual(self.order(text, [2, 2, 2]), [2, 0, 0, 1, 1, 2])

    def test_twenty_efforts_in_one_cell(self):
        given = last(("field", "parts 2;" + cells(1)), ("order", [20]))
        self.assertEqual(given, [0, 20] + [0] * 20 + [2 ** 20 - 1, 2 ** 19])

    def test_twenty_together_with_those_in_vain(self):
        given = ask(("field", TWO), ("vain", 0, 15), ("order", [5, 20]), ("order", [6, 20]))
        self.assertEqual((given[2][:2], given[3]), ([0, 25], [-3]))

    def test_twenty_efforts_in_all_of_sixteen_cells(self):
        given = last(("field", "parts 2;" + cells(16)), ("order", [20] * 16))
        self.assertEqual(given[:2] + given[2:-2], [0, 320] + list(range(16)) * 20)
        not_found = [Fraction(1, 2) ** (place // 16) * Fraction(32 - place % 16, 32) for place in range(320)]
        self.assertEqual(given[-2:], list(sum(not_found).as_integer_ratio()))

    def test_it_is_only_asked(self):
        given = ask(("field", TWO), ("order", [3, 2]), ("order", [3, 2]), ("left",), ("counts",))
        self.assertEqual(given[1], given[2])
        self.assertEqual(given[3:], [[0, 1, 1], [0, 2, 0, 0, 10, 0]])

    def test_no_order_has_a_lesser_expected_time(self):
        texts = (
            "parts 7;" + cell("a", 3, 1, 2) + cell("b", 9, 2, 1) + cell("c", 1, 7, 3),
            "parts 5;" + cell("a", 8, 1, 2) + cell("b", 8, 1, 3) + cell("c", 8, 1, 2),
            "parts 2;" + cell("a", 1, 1, 1) + cell("b", 2, 1, 2) + cell("c", 4, 1, 4),
            "parts 9;" + cell("a", 0, 9, 1) + cell("b", 6, 0, 4) + cell("c", 2, 8, 20),
        )
        for text in texts:
            for row in ([1, 1, 1], [2, 1, 2], [3, 0, 2], [2, 2, 2]):
                done = [("field", text), ("vain", 0, 1)]
                efforts = [0] * row[0] + [1] * row[1] + [2] * row[2]
                orders = sorted(set(permutations(efforts)))
                given = each(*[("takes", order) for order in orders], before=done)
                least = min([Fraction(*answer[1:]) for answer in given])
                best = last(*done, ("order", row))
                self.assertEqual(sorted(best[2:-2]), efforts)
                self.assertEqual(Fraction(*best[-2:]), least, (text, row))


if __name__ == "__main__":
    unittest.main()
