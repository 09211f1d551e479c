"""answers: one list in, one list out, and nothing kept or changed."""

import time
import unittest

import searchefforts.field
from helper import ask, cell, flat, names, to_bytes

TWO = "parts 10;\n" + cell("a", 5, 3) + cell("b", 7, 5)
CALLS = [
    ("left",), ("where", TWO), ("where", "parts 1;"), ("field", TWO), ("vain", 0, 2), ("vain", 1, 1), ("back", 1, 1),
    ("evidence", 2, 1, []), ("chances",), ("left",), ("would", [1, 1]), ("best", 3), ("vain", 2, 0), ("vain", 0, 19),
    ("curve", 1), ("price", 1), ("thrift", 1), ("order", [1, 1]), ("takes", [0, 1]), ("teams",), ("can", [0, 0]),
    ("can", [1, 0]), ("cells",), ("counts",), ("clear",), ("counts",),
]


class Interface(unittest.TestCase):
    def test_numbers_in_and_numbers_out(self):
        text = to_bytes(TWO)
        given = searchefforts.field.answers(
            [6, 1, 3, 112, 97, 256, 0, len(text)] + text + [3, 0, 2, 4, 0, 1, 5, 2, 3, 2, 1, 1]
            + [6, 7, 8, 2, 1, 0, 9, 1, 1, 0, 2]
        )
        expected = [1, -20, 1, -1, 3, 0, 2, 0, 2, 0, 2, 2, 0, 1, 1, 0]
        expected += [5, 0, 3, 7, 4, 7, 3, 0, 49, 58, 3, 0, 9, 70, 5, 0, 0, 1, 2, 7, 3, 1, 1, 0]
        expected += [len(text) + 1, 0] + text
        self.assertEqual(given, expected)

    def test_numbers_of_the_other_calls(self):
        text = to_bytes("parts 2; cell q weight 4 finds 1 time 3; cell xy weight 2 finds 2 time 1; team 2 in q xy;")
        given = searchefforts.field.answers(
            [0, len(text)] + text + [10, 2, 11, 1, 12, 4, 13, 2, 1, 2, 14, 3, 1, 0, 0, 14, 0]
            + [15, 16, 2, 1, 1, 16, 2, 2, 1, 17, 18, 19, 19, 18]
        )
        expected = [3, 0, 2, 1, 7, 0, 0, 1, 1, 3, 2, 3, 5, 0, 1, 3, 1, 3, 5, 0, 1, 1, 2, 3]
        expected += [7, 0, 3, 1, 0, 1, 10, 3, 3, 0, 4, 1, 3, 0, 0, 1]
        expected += [5, 0, 1, 1, 2, 3, 2, 0, 1, 2, 0, 0]
        expected += [15, 0, 2, 1, 113, 4, 1, 3, 0, 2, 120, 121, 2, 2, 1, 0, 6, 0, 2, 1, 2, 2, 0, 1, 0, 1, 0, 1, -20]
        self.assertEqual(given, expected)

    def test_several_calls_on_one_object(self):
        self.assertEqual(ask(*CALLS), [
            [-20], [0], [1, 4, 6], [0, 2, 0], [0, 2], [0, 1], [0, 0], [0], [0, 7, 27, 20, 27], [0, 63, 80],
            [0, 121, 270], [0, 0, 3, 35, 54], [-1], [-3], [0, 0, 1, 10, 27], [0, 10, 27, 5, 27], [0, 0, 1, 10, 27],
            [0, 2, 1, 0, 44, 27], [0, 173, 90], [0, 0, 0, 0, 1], [0, 1], [0, 0],
            [0, 2, 1, 97, 5, 3, 1, 2, 1, 98, 7, 5, 1, 0], [0, 2, 0, 0, 10, 2], [0], [-20],
        ])

    def test_lists_of_no_numbers(self):
        self.assertEqual(ask(("where", []), ("field", []), ("would", [])), [[1, 1, 0], [1, 1, 0], [-20]])

    def test_what_is_handed_in_stays_as_it_was(self):
        calls = flat(CALLS)
        before = list(calls)
        searchefforts.field.answers(calls)
        self.assertEqual(calls, before)

    def test_a_second_time_answers_as_the_first(self):
        first = searchefforts.field.answers(flat(CALLS))
        self.assertEqual(searchefforts.field.answers(flat([("chances",)])), [1, -20])
        self.assertEqual(searchefforts.field.answers(flat(CALLS)), first)

    def test_each_asking_gives_a_list_of_its_own(self):
        first = searchefforts.field.answers(flat(CALLS))
        copy = list(first)
        second = searchefforts.field.answers(flat(CALLS))
        second.clear()
        self.assertEqual(first, copy)
        self.assertEqual(searchefforts.field.answers(flat(CALLS)), copy)

    def test_whole_numbers_alone(self):
        given = searchefforts.field.answers(flat(CALLS))
        self.assertIs(type(given), list)
        self.assertEqual({type(number) for number in given}, {int})

    def test_120_calls(self):
        given = ask(("field", TWO), *[("vain", 0, 1), ("chances",), ("back", 0, 1)] * 39, ("left",), ("best", 40))
        self.assertEqual(len(given), 120)
        self.assertEqual(given[115:119], [[0, 1], [0, 1, 3, 2, 3], [0, 0], [0, 1, 1]])

    def test_120_calls_on_16_cells_and_6_teams_end_in_some_seconds(self):
        told = names(16)
        text = "parts 97;" + "".join([cell(name, 1000 - at, 1 + 5 * at, 1 + at % 3) for at, name in enumerate(told)])
        text += "".join([f"team 4 in {' '.join(told[team:] + told[:team])};" for team in range(6)])
        calls = [("field", text), ("evidence", 999, 997, [3, 5]), ("vain", 7, 3)]
        calls += [("best", 60), ("curve", 60), ("price", 59), ("thrift", 100)] * 3
        calls += [("order", [17] * 16), ("takes", [0, 1, 2] * 20), ("teams",), ("can", [1] * 16), ("cells",)] * 21
        self.assertEqual(len(calls), 120)
        begun = time.perf_counter()
        given = ask(*calls)
        self.assertLess(time.perf_counter() - begun, 5)
        self.assertEqual([answer[0] for answer in given], [0] * 120)
        begun = time.perf_counter()
        ask(("field", text), *[("teams",)] * 119)
        ask(("field", text), *[("order", [20] * 16)] * 119)
        self.assertLess(time.perf_counter() - begun, 10)

    def test_the_longest_list(self):
        text = TWO + " " * (1500 - len(TWO))
        calls = flat([("field", text)] * 10 + [("where", text + " " * 100)])
        self.assertEqual(searchefforts.field.answers(calls), [3, 0, 2, 0] * 10 + [1, -1])


if __name__ == "__main__":
    unittest.main()
