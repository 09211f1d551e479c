"""vain, back, evidence, chances, left and would: what they answer when nothing is refused."""

import unittest
from fractions import Fraction
from itertools import permutations

from helper import ask, cell, cells, fractions, last

TWO = "parts 10;" + cell("a", 5, 3) + cell("b", 7, 5)
FOUR = "parts 4;" + cell("a", 6, 1) + cell("b", 0, 2) + cell("c", 3, 0) + cell("d", 1, 4)
SIXTEEN = "parts 100;" + cells(16)


class Efforts(unittest.TestCase):
    def test_vain_and_back_tell_how_many_then(self):
        given = ask(("field", TWO), ("vain", 0, 3), ("vain", 1, 1), ("vain", 0, 0), ("back", 0, 2), ("back", 0, 0))
        self.assertEqual(given[1:], [[0, 3], [0, 1], [0, 3], [0, 1], [0, 1]])

    def test_twenty_efforts_at_once_and_back(self):
        given = ask(("field", TWO), ("vain", 1, 20), ("chances",), ("back", 1, 20), ("chances",))
        mass = 7 * Fraction(1, 2) ** 20
        chance = mass / (5 + mass)
        self.assertEqual(given[1], [0, 20])
        self.assertEqual(given[2], [0, 5242880, 5242887, chance.numerator, chance.denominator])
        self.assertEqual(given[3:], [[0, 0], [0, 5, 12, 7, 12]])

    def test_twenty_efforts_one_by_one(self):
        given = ask(("field", TWO), *[("vain", 0, 1)] * 21)
        self.assertEqual(given[1:], [[0, many] for many in range(1, 21)] + [[-3]])


class Chances(unittest.TestCase):
    def test_as_told(self):
        self.assertEqual(last(("field", TWO), ("chances",)), [0, 5, 12, 7, 12])

    def test_after_efforts(self):
        self.assertEqual(last(("field", TWO), ("vain", 0, 2), ("chances",)), [0, 7, 27, 20, 27])

    def test_0_is_0_1_and_all_is_1_1(self):
        self.assertEqual(last(("field", FOUR), ("chances",)), [0, 3, 5, 0, 1, 3, 10, 1, 10])
        self.assertEqual(last(("field", FOUR), ("vain", 3, 1), ("chances",)), [0, 2, 3, 0, 1, 1, 3, 0, 1])
        self.assertEqual(last(("field", "parts 2;" + cell("a", 9, 0)), ("vain", 0, 20), ("chances",)), [0, 1, 1])

    def test_an_effort_that_finds_nothing_changes_nothing(self):
        given = ask(("field", FOUR), ("chances",), ("vain", 2, 20), ("chances",))
        self.assertEqual(given[1], given[3])

    def test_all_chances_together_are_1(self):
        done = [("vain", number, number + 3) for number in range(16)]
        chances = fractions(last(("field", SIXTEEN), *done, ("evidence", 997, 3, [1, 4, 15]), ("chances",))[1:])
        self.assertEqual(len(chances), 16)
        self.assertEqual(sum(chances), 1)

    def test_the_order_of_what_was_done_is_nothing(self):
        done = [("vain", 0, 4), ("vain", 3, 1), ("evidence", 5, 2, [0, 1]), ("evidence", 3, 7, [3]), ("vain", 0, 2)]
        given = [ask(("field", FOUR), *order, ("chances",), ("left",))[-2:] for order in permutations(done)]
        self.assertEqual(given, [given[0]] * len(given))

    def test_back_is_as_if_it_was_not_done(self):
        given = ask(("field", TWO), ("vain", 0, 2), ("chances",), ("vain", 0, 5), ("back", 0, 5), ("chances",))
        self.assertEqual(given[2], given[5])

    def test_lowest_terms_after_all_efforts(self):
        text = "parts 2;" + cell("a", 1) + cell("b", 2) + cell("c", 4)
        given = last(("field", text), *[("vain", number, 20) for number in range(3)], ("chances",))
        self.assertEqual(given, [0, 1, 7, 2, 7, 4, 7])

    def test_great_numbers(self):
        text = "parts 100;" + cell("a", 1000, 1) + cell("b", 999, 99)
        done = [("evidence", 1000, 1000, [])] * 3 + [("vain", 0, 20), ("vain", 1, 20)]
        masses = [10 ** 12 * Fraction(99, 100) ** 20, 999 * 10 ** 9 * Fraction(1, 100) ** 20]
        chances = fractions(last(("field", text), *done, ("chances",))[1:])
        self.assertEqual(chances, [mass / sum(masses) for mass in masses])


class Evidence(unittest.TestCase):
    def chances(self, *evidence):
        given = ask(("field", TWO), *evidence, ("chances",))
        self.assertEqual(given[1:-1], [[0]] * len(evidence))
        return given[-1][1:]

    def test_a_for_these_and_b_for_all_others(self):
        self.assertEqual(self.chances(("evidence", 2, 3, [0])), [10, 31, 21, 31])
        self.assertEqual(self.chances(("evidence", 2, 3, [1])), [15, 29, 14, 29])
        self.assertEqual(self.chances(("evidence", 0, 3, [1])), [1, 1, 0, 1])
        self.assertEqual(self.chances(("evidence", 3, 0, [1])), [0, 1, 1, 1])

    def test_no_cells_and_all_cells(self):
        self.assertEqual(self.chances(("evidence", 0, 3, [])), [5, 12, 7, 12])
        self.assertEqual(self.chances(("evidence", 3, 0, [1, 0])), [5, 12, 7, 12])

    def test_a_cell_told_twice_as_once(self):
        self.assertEqual(self.chances(("evidence", 2, 1, [0, 0, 0])), [10, 17, 7, 17])
        self.assertEqual(self.chances(("evidence", 2, 1, [0] * 70)), [10, 17, 7, 17])

    def test_one_behind_another(self):
        self.assertEqual(self.chances(("evidence", 2, 3, [0]), ("evidence", 5, 1, [1])), [2, 23, 21, 23])

    def test_a_weight_of_0_stays_0(self):
        given = ask(("field", TWO), ("evidence", 0, 1, [0]), ("evidence", 1000, 1, [0]), ("chances",))
        self.assertEqual(given[-1], [0, 0, 1, 1, 1])

    def test_a_weight_of_10_to_the_12(self):
        text = "parts 2;" + cell("a", 1000) + cell("b", 1)
        given = ask(
            ("field", text), *[("evidence", 1000, 1, [0])] * 3, ("chances",),
            ("evidence", 2, 1, [0]), ("evidence", 1, 0, [0]), ("chances",),
        )
        self.assertEqual(given[1:4], [[0]] * 3)
        self.assertEqual(given[4], [0, 10 ** 12, 10 ** 12 + 1, 1, 10 ** 12 + 1])
        self.assertEqual(given[5:], [[-3], [0], [0, 1, 1, 0, 1]])


class Left(unittest.TestCase):
    def test_nothing_was_done(self):
        self.assertEqual(last(("field", TWO), ("left",)), [0, 1, 1])

    def test_after_efforts(self):
        self.assertEqual(last(("field", TWO), ("vain", 0, 2), ("left",)), [0, 63, 80])

    def test_by_the_weights_by_all_evidence(self):
        done = (("field", TWO), ("evidence", 1, 2, [0]))
        self.assertEqual(last(*done, ("left",)), [0, 1, 1])
        self.assertEqual(last(*done, ("vain", 1, 1), ("left",)), [0, 12, 19])

    def test_nothing_left(self):
        text = "parts 3;" + cell("a", 4, 3) + cell("b", 0, 1)
        given = ask(("field", text), ("vain", 0, 1), ("left",), ("back", 0, 1), ("left",))
        self.assertEqual(given[2], [0, 0, 1])
        self.assertEqual(given[4], [0, 1, 1])


class Would(unittest.TestCase):
    def test_ordinary(self):
        self.assertEqual(last(("field", TWO), ("would", [1, 0])), [0, 1, 8])
        self.assertEqual(last(("field", TWO), ("would", [0, 2])), [0, 7, 16])
        self.assertEqual(last(("field", TWO), ("vain", 0, 2), ("would", [1, 1])), [0, 121, 270])

    def test_no_efforts(self):
        self.assertEqual(last(("field", TWO), ("would", [0, 0])), [0, 0, 1])

    def test_finds_of_none_and_of_all_the_parts(self):
        self.assertEqual(last(("field", FOUR), ("would", [0, 20, 20, 0])), [0, 0, 1])
        self.assertEqual(last(("field", FOUR), ("would", [0, 0, 0, 1])), [0, 1, 10])
        self.assertEqual(last(("field", FOUR), ("would", [0, 0, 0, 20])), [0, 1, 10])
        self.assertEqual(last(("field", "parts 2;" + cell("a", 1, 2)), ("would", [1])), [0, 1, 1])

    def test_twenty_efforts_in_all_cells(self):
        found = 1 - Fraction(99, 100) ** 20
        given = last(("field", SIXTEEN), ("would", [20] * 16))
        self.assertEqual(given, [0, found.numerator, found.denominator])

    def test_twenty_together_with_those_in_vain(self):
        given = ask(("field", TWO), ("vain", 0, 15), ("would", [5, 20]), ("would", [6, 20]))
        self.assertEqual((given[2][0], given[3]), (0, [-3]))

    def test_it_is_only_asked(self):
        given = ask(("field", TWO), ("would", [3, 4]), ("chances",), ("left",), ("vain", 0, 0), ("vain", 1, 0))
        self.assertEqual(given[2:], [[0, 5, 12, 7, 12], [0, 1, 1], [0, 0], [0, 0]])


if __name__ == "__main__":
    unittest.main()
