"""cells, counts and clear: what there is, and how all begins anew."""

import unittest

from helper import ask, cell, cells, last, names, to_bytes

FIELD = (
    "parts 10;" + cell("wood", 5, 3, 2) + cell("lake", 70, 0, 20) + cell("abcdefgh", 0, 10, 1)
    + "team 3 in lake wood; team 12 in wood;"
)
DONE = (("field", FIELD), ("vain", 0, 3), ("vain", 2, 20), ("evidence", 7, 2, [1]), ("back", 0, 1))


def told(name, *numbers):
    return [len(name)] + to_bytes(name) + list(numbers)


class Cells(unittest.TestCase):
    def test_as_told(self):
        expected = [0, 3] + told("wood", 5, 3, 2, 0) + told("lake", 70, 0, 20, 0) + told("abcdefgh", 0, 10, 1, 0)
        self.assertEqual(last(("field", FIELD), ("cells",)), expected)

    def test_after_efforts_and_evidence(self):
        expected = [0, 3] + told("wood", 10, 3, 2, 2) + told("lake", 490, 0, 20, 0) + told("abcdefgh", 0, 10, 1, 20)
        self.assertEqual(last(*DONE, ("cells",)), expected)

    def test_one_cell(self):
        given = last(("field", "parts 2;" + cell("q", 1000, 2, 20)), ("cells",))
        self.assertEqual(given, [0, 1, 1, 113, 1000, 2, 20, 0])

    def test_sixteen_cells(self):
        expected = [0, 16]
        for name in names(16):
            expected += told(name, 1, 1, 1, 0)
        self.assertEqual(last(("field", "parts 2;" + cells(16)), ("cells",)), expected)

    def test_a_weight_of_10_to_the_12(self):
        great = [("evidence", 1000, 0, [0])] * 3
        given = last(("field", "parts 2;" + cell("a", 1000) + cell("b", 1000)), *great, ("cells",))
        self.assertEqual(given, [0, 2] + told("a", 10 ** 12, 1, 1, 0) + told("b", 0, 1, 1, 0))

    def test_while_nothing_is_left(self):
        given = last(("field", "parts 2;" + cell("a", 0)), ("vain", 0, 4), ("cells",))
        self.assertEqual(given, [0, 1] + told("a", 0, 1, 1, 4))


class Counts(unittest.TestCase):
    def test_as_told(self):
        self.assertEqual(last(("field", FIELD), ("counts",)), [0, 3, 2, 15, 10, 0])

    def test_after_efforts_and_evidence(self):
        self.assertEqual(last(*DONE, ("counts",)), [0, 3, 2, 15, 10, 22])

    def test_one_cell_and_no_teams(self):
        self.assertEqual(last(("field", "parts 2;" + cells(1)), ("counts",)), [0, 1, 0, 0, 2, 0])

    def test_sixteen_cells_and_six_teams(self):
        teams = "".join([f"team 4 in {name};" for name in names(6)])
        done = [("vain", number, 20) for number in range(16)]
        given = last(("field", "parts 100;" + cells(16) + teams), *done, ("counts",))
        self.assertEqual(given, [0, 16, 6, 24, 100, 320])

    def test_while_nothing_is_left(self):
        self.assertEqual(last(("field", "parts 2;" + cell("a", 0)), ("vain", 0, 4), ("counts",)), [0, 1, 0, 0, 2, 4])


class Clear(unittest.TestCase):
    ASKED = (
        ("shown",), ("vain", 0, 1), ("back", 0, 0), ("evidence", 1, 1, []), ("chances",), ("left",),
        ("would", [0, 0, 0]), ("best", 1), ("curve", 1), ("price", 1), ("thrift", 1), ("order", [0, 0, 0]),
        ("takes", [0]), ("teams",), ("can", [0, 0, 0]), ("cells",), ("counts",),
    )

    def test_no_field_is_left(self):
        given = ask(*DONE, ("clear",), *self.ASKED)
        self.assertEqual(given[len(DONE):], [[0]] + [[-20]] * len(self.ASKED))

    def test_at_the_beginning_and_twice(self):
        self.assertEqual(ask(("clear",), ("clear",), ("left",)), [[0], [0], [-20]])

    def test_a_field_behind_it_is_new(self):
        given = ask(*DONE, ("clear",), ("field", FIELD), *self.ASKED)
        self.assertEqual(given[len(DONE):], [[0]] + ask(("field", FIELD), *self.ASKED))

    def test_a_wrong_text_behind_it_brings_nothing_back(self):
        given = ask(*DONE, ("clear",), ("field", "parts"), ("where", FIELD), ("counts",))
        self.assertEqual(given[len(DONE):], [[0], [1, 1, 5], [0], [-20]])

    def test_several_lines_in_one(self):
        given = ask(*DONE, ("cells",), ("clear",), *DONE, ("cells",))
        self.assertEqual(given[:6], given[7:])


if __name__ == "__main__":
    unittest.main()
