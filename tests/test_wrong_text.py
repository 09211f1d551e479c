"""What's wrong in a text: its kind and its place, which a ^ marks in the texts here."""

import unittest

from helper import ask, cell, cells, names

HEAD = "parts 10;" + cells(3)


class WrongTexts(unittest.TestCase):
    def assert_wrong(self, kind, marked):
        self.assertEqual(marked.count("^"), 1)
        text = marked.replace("^", "")
        expected = [1, kind, marked.index("^")]
        self.assertEqual(ask(("where", text), ("field", text)), [expected, expected], marked)

    def test_bytes_that_are_no_piece(self):
        for byte in [0, 9, 11, 13, 31, 33, 44, 45, 47, 58, 60, 64, 65, 90, 91, 95, 96, 123, 127, 128, 160, 255]:
            sign = bytes([byte]).decode("latin-1")
            self.assert_wrong(1, "^" + sign + HEAD)
            self.assert_wrong(1, "parts 10^" + sign + ";" + cells(1))
            self.assert_wrong(1, "parts 10;cell a^" + sign + " weight")
            self.assert_wrong(1, HEAD + "^" + sign)
            self.assert_wrong(1, HEAD + "team 1 in a ^" + sign + ";")

    def test_a_longer_word(self):
        self.assert_wrong(1, "parts 10;cell ^abcdefghi weight 1 finds 1 time 1;")
        self.assert_wrong(1, "^partspart 10;")
        self.assert_wrong(1, HEAD + "team 1 in ^" + "a" * 100 + ";")

    def test_a_word_that_goes_on(self):
        self.assert_wrong(1, "^partsa 10;" + cells(1))
        self.assert_wrong(1, HEAD + "^teama 1 in a;")

    def test_a_longer_number(self):
        self.assert_wrong(1, "parts ^10000;" + cells(1))
        self.assert_wrong(1, "parts 10;cell a weight ^12345 finds 1 time 1;")

    def test_a_number_with_0_in_front(self):
        self.assert_wrong(1, "parts ^010;" + cells(1))
        self.assert_wrong(1, "parts 10;cell a weight ^00 finds 1 time 1;")
        self.assert_wrong(1, "parts 10;cell a weight 0 finds ^01 time 1;")
        self.assert_wrong(1, HEAD + "team ^01 in a;")

    def test_a_text_that_ends_too_early(self):
        whole = "parts 10; cell a weight 1 finds 1 time 1; team 3 in a ;"
        right = [whole.index("team") - 1, whole.index("team")]
        for end in range(len(whole)):
            if end in right:
                self.assertEqual(ask(("where", whole[:end])), [[0]])
            elif end == 0 or whole[end - 1] in " ;" or whole[end] in " ;":
                self.assert_wrong(1, whole[:end] + "^")
                self.assert_wrong(1, whole[:end] + " \n ^")

    def test_a_text_that_ends_within_a_word(self):
        self.assert_wrong(1, "^part")
        self.assert_wrong(1, "parts 10;^cel")
        self.assert_wrong(1, HEAD + "^tea")

    def test_no_text(self):
        self.assert_wrong(1, "^")
        self.assert_wrong(1, " \n^")

    def test_each_other_piece_in_each_place(self):
        pieces = "parts 10 ; cell a weight 1 finds 1 time 1 ; team 3 in a ;".split()
        fitting = {12: ("cell",), 16: ("name",)}
        for place in range(len(pieces)):
            for other in ("parts", "cell", "weight", "finds", "time", "team", "in", ";", "7", "name"):
                if self.may_stand(pieces[place], other) or other in fitting.get(place, ()):
                    continue
                self.assert_wrong(1, " ".join(pieces[:place] + ["^" + other] + pieces[place + 1:]))

    def may_stand(self, piece, other):
        if piece == "a" or piece.isdigit():
            return other == ("name" if piece == "a" else "7")
        return other == piece

    def test_something_behind_the_field(self):
        self.assert_wrong(1, HEAD + "^;")
        self.assert_wrong(1, HEAD + "^parts 10;")
        self.assert_wrong(1, HEAD + "^a")
        self.assert_wrong(1, HEAD + "^4")
        self.assert_wrong(1, HEAD + "team 1 in a; ^;")

    def test_a_cell_behind_a_team(self):
        self.assert_wrong(1, HEAD + "team 1 in a; ^" + cell("z"))

    def test_a_team_ahead_of_all_cells(self):
        self.assert_wrong(1, "parts 10; ^team 1 in a;" + cells(1))

    def test_a_team_in_no_cell(self):
        self.assert_wrong(1, HEAD + "team 1 in^;")
        self.assert_wrong(1, HEAD + "team 1 in a ^in;")
        self.assert_wrong(1, HEAD + "team 1 in a ^2;")

    def test_a_name_that_is_no_cells(self):
        self.assert_wrong(2, HEAD + "team 1 in ^d;")
        self.assert_wrong(2, HEAD + "team 1 in a b c ^aa a;")

    def test_a_cell_told_already(self):
        self.assert_wrong(3, HEAD + "cell ^a weight")
        self.assert_wrong(3, HEAD + "cell z weight 1 finds 1 time 1; cell ^z")

    def test_a_17th_cell(self):
        self.assert_wrong(3, "parts 10;" + cells(16) + "cell ^z weight 1 finds 1 time 1;")
        self.assert_wrong(3, "parts 10;" + cells(16) + "cell ^a weight 1 finds 1 time 1;")
        self.assert_wrong(1, "parts 10;" + cells(16) + "cell ^weight 1 finds 1 time 1;")
        self.assert_wrong(1, "parts 10;" + cells(16) + "cell ^")

    def test_a_cell_twice_in_a_team(self):
        self.assert_wrong(3, HEAD + "team 1 in a ^a;")
        self.assert_wrong(3, HEAD + "team 1 in c b a ^b c;")

    def test_a_seventh_team(self):
        teams = "".join([f"team 1 in {name};" for name in names(3) + names(3)])
        self.assert_wrong(3, HEAD + teams + " ^team 1 in a;")
        self.assert_wrong(3, HEAD + teams + " ^team")

    def test_numbers_out_of_their_range(self):
        for parts in (0, 1, 101, 9999):
            self.assert_wrong(4, f"parts ^{parts};" + cells(1))
        for weight in (1001, 9999):
            self.assert_wrong(4, f"parts 10;cell a weight ^{weight} finds 1 time 1;")
        for parts, finds in ((2, 3), (10, 11), (100, 101), (99, 100)):
            self.assert_wrong(4, f"parts {parts};cell a weight 1 finds ^{finds} time 1;")
        for time in (0, 21, 9999):
            self.assert_wrong(4, f"parts 10;cell a weight 1 finds 1 time ^{time};")
        for efforts in (0, 13, 9999):
            self.assert_wrong(4, HEAD + f"team ^{efforts} in a;")

    def test_more_than_24_efforts_together(self):
        self.assert_wrong(5, HEAD + "team 12 in a;team 12 in b;team ^1 in c;")
        self.assert_wrong(5, HEAD + "team 12 in a;team 11 in b;team ^2 in c;")
        self.assert_wrong(5, HEAD + "team 5 in a;" * 4 + "team ^5 in c;")

    def test_out_of_range_goes_ahead_of_too_many_together(self):
        self.assert_wrong(4, HEAD + "team 12 in a;team 12 in b;team ^13 in c;")
        self.assert_wrong(4, HEAD + "team 12 in a;team 12 in b;team ^0 in c;")

    def test_of_several_the_first(self):
        self.assert_wrong(4, "parts ^1;cell a weight 2000 finds 1 time 1;!")
        self.assert_wrong(4, "parts 10;cell a weight ^2000 finds 11 time 0;cell a")
        self.assert_wrong(4, "parts 10;cell a weight 1 finds ^11 time 0;cell a")
        self.assert_wrong(3, "parts 10;cell a weight 1 finds 1 time 1;cell ^a weight 2000;!")
        self.assert_wrong(2, HEAD + "team 12 in ^z;team 13 in a a;")
        self.assert_wrong(3, HEAD + "team 12 in a ^a z;team 13 in a a;")
        self.assert_wrong(5, HEAD + "team 12 in a;team 12 in b;team ^1 in z z;")
        self.assert_wrong(4, HEAD + "team ^13 of a;")
        self.assert_wrong(1, HEAD + "team 1 ^of z z;")
        self.assert_wrong(1, HEAD + "^A team 13 in z;")


class NoTexts(unittest.TestCase):
    def assert_refused(self, text):
        self.assertEqual(ask(("where", text), ("field", text)), [[-1], [-1]])

    def test_numbers_that_are_no_bytes(self):
        right = list(HEAD.encode())
        for number in (-1, 256, 1000, -(2 ** 63), 2 ** 63 - 1):
            self.assert_refused([number])
            self.assert_refused(right + [number])
            self.assert_refused([number] + right)
            self.assert_refused([33] + right + [number])

    def test_a_text_of_more_than_1500(self):
        self.assert_refused(HEAD + " " * (1501 - len(HEAD)))
        self.assert_refused("!" * 1501)
        self.assert_refused("\n" * 1600)

    def test_a_wrong_text_of_1500(self):
        self.assertEqual(ask(("where", " " * 1500), ("field", " " * 1499 + "!")), [[1, 1, 1500], [1, 1, 1499]])


if __name__ == "__main__":
    unittest.main()
