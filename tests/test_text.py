"""field, where and shown of texts in which nothing is wrong."""

import unittest

from helper import ask, cell, cells, last, names, to_bytes

SHOWN = (
    "parts 10;\n"
    "cell wood weight 5 finds 3 time 2;\n"
    "cell lake weight 70 finds 0 time 20;\n"
    "team 3 in lake wood;\n"
    "team 12 in wood;\n"
)


class RightTexts(unittest.TestCase):
    def assert_right(self, text, many_cells, many_teams, shown=None):
        expected = text if shown is None else shown
        given = ask(("where", text), ("field", text), ("shown",))
        self.assertEqual(given, [[0], [0, many_cells, many_teams], [0] + to_bytes(expected)])

    def test_as_shown(self):
        self.assert_right(SHOWN, 2, 2)

    def test_team_names_stay_in_their_order(self):
        self.assert_right("parts 2;\n" + cells(3) + "team 1 in c a b;\n", 3, 1)

    def test_more_blanks_than_needed(self):
        spread = "\n\n " + SHOWN.replace(" ", " \n  ").replace(";", " ;\n") + "  \n"
        self.assert_right(spread, 2, 2, SHOWN)

    def test_no_more_blanks_than_needed(self):
        tight = "parts10;cell wood weight5finds3time2;cell lake weight70finds0time20;"
        self.assert_right(tight + "team3in lake wood;team12in wood;", 2, 2, SHOWN)

    def test_one_cell_and_no_team(self):
        self.assert_right("parts 2;\n" + cells(1), 1, 0)

    def test_sixteen_cells_and_six_teams(self):
        teams = "".join([f"team 4 in {name};\n" for name in names(6)])
        self.assert_right("parts 100;\n" + cells(16) + teams, 16, 6)

    def test_a_team_in_all_cells(self):
        self.assert_right("parts 2;\n" + cells(16) + "team 1 in " + " ".join(names(16)) + ";\n", 16, 1)

    def test_two_teams_in_one_cell(self):
        self.assert_right("parts 2;\n" + cells(1) + "team 1 in a;\nteam 1 in a;\n", 1, 2)

    def test_all_efforts_of_two_teams(self):
        self.assert_right("parts 2;\n" + cells(1) + "team 12 in a;\nteam 12 in a;\n", 1, 2)

    def test_words_of_eight_letters(self):
        self.assert_right("parts 2;\n" + cell("abcdefgh") + cell("zzzzzzzz") + "team 1 in zzzzzzzz;\n", 2, 1)

    def test_names_like_other_words(self):
        self.assert_right("parts 2;\n" + cell("part") + cell("cells") + cell("i") + cell("inn") + cell("teams"), 5, 0)

    def test_least_and_greatest_numbers(self):
        self.assert_right("parts 2;\n" + cell("a", 0, 0, 1) + cell("b", 1000, 2, 20) + "team 1 in a;\n", 2, 1)
        self.assert_right("parts 100;\n" + cell("a", 1000, 100, 20) + "team 12 in a;\n", 1, 1)

    def test_a_text_of_1500_bytes(self):
        text = SHOWN + " " * (1500 - len(SHOWN))
        self.assertEqual(len(text), 1500)
        self.assert_right(text, 2, 2, SHOWN)

    def test_shown_can_be_read_again(self):
        shown = last(("field", SHOWN), ("shown",))[1:]
        self.assertEqual(ask(("field", shown), ("shown",)), [[0, 2, 2], [0] + shown])

    def test_shown_is_as_it_was_told(self):
        done = (("field", SHOWN), ("vain", 0, 3), ("evidence", 7, 9, [1]), ("shown",))
        self.assertEqual(last(*done), [0] + to_bytes(SHOWN))


class TheFieldNow(unittest.TestCase):
    def test_where_changes_nothing(self):
        given = ask(("where", SHOWN), ("shown",), ("field", "parts 2;" + cells(1)), ("where", SHOWN), ("shown",))
        self.assertEqual(given[1], [-20])
        self.assertEqual(given[4], [0] + to_bytes("parts 2;\n" + cells(1)))

    def test_a_new_field_begins_anew(self):
        text = "parts 4;" + cells(2)
        given = ask(
            ("field", text), ("vain", 0, 20), ("evidence", 5, 1, [1]),
            ("field", text), ("chances",), ("left",), ("vain", 0, 1),
        )
        self.assertEqual(given[3:], [[0, 2, 0], [0, 1, 2, 1, 2], [0, 1, 1], [0, 1]])

    def test_a_new_field_has_its_own_cells(self):
        given = ask(("field", "parts 4;" + cells(3)), ("field", "parts 4;" + cells(1)), ("vain", 1, 1), ("chances",))
        self.assertEqual(given[2:], [[-1], [0, 1, 1]])

    def test_a_wrong_text_changes_nothing(self):
        for wrong in ("", "parts 4;", "parts 4;" + cells(2) + "team 1 in z;", [0] * 1501, [256]):
            given = ask(
                ("field", SHOWN), ("vain", 0, 2), ("evidence", 3, 1, [0]), ("chances",), ("left",),
                ("field", wrong), ("shown",), ("vain", 0, 0), ("chances",), ("left",),
            )
            self.assertNotEqual(given[5][0], 0)
            self.assertEqual(given[6], [0] + to_bytes(SHOWN))
            self.assertEqual(given[7], [0, 2])
            self.assertEqual(given[8:], given[3:5])

    def test_a_wrong_first_text_leaves_no_field(self):
        self.assertEqual(ask(("field", "parts 4;"), ("shown",)), [[1, 1, 8], [-20]])


if __name__ == "__main__":
    unittest.main()
