"""Each refusal of each call, the order in which they're looked at, and that nothing is changed by one."""

import unittest

from helper import ask, cell, last

TWO = "parts 10;" + cell("a", 5, 3) + cell("b", 7, 5) + "team 2 in a; team 1 in b a;"
LEAST = -(2 ** 63)
MOST = 2 ** 63 - 1
NOTHING = ("evidence", 0, 0, [])

NO_CELLS = (-1, 2, -2, 16, LEAST, MOST)
NO_EFFORTS = (-1, 21, LEAST, MOST)
NO_ROWS = (
    [], [0], [0, 0, 0], [-1, 0], [0, -1], [21, 0], [0, 21], [0, LEAST], [MOST, 0], [0] * 16, [0] * 70, [0, 0, MOST],
)
NO_ORDERS = (
    [2], [-1], [0, 1, 2], [2, 0, 1], [0] * 19 + [-1], [LEAST], [0, MOST], [0] * 61, [0, 1] * 30 + [0], [1] * 70,
    [0] * 20 + [1] * 20 + [2] * 20, [16],
)


class Refusals(unittest.TestCase):
    def assert_refused(self, number, before, refused):
        """Refused with this number, and what there is to be asked answers as without it."""
        asked = [
            ("shown",), ("chances",), ("left",), ("cells",), ("counts",), ("vain", 0, 0), ("vain", 1, 0), ("best", 0),
            ("teams",), ("can", [1, 1]),
        ]
        given = ask(*before, refused, *asked)
        self.assertEqual(given[len(before)], [number], refused)
        self.assertEqual(given[len(before) + 1:], ask(*before, *asked)[len(before):], refused)

    def assert_not_as_told(self, refused):
        for more in ([], [("vain", 0, 20), ("vain", 1, 20)], [NOTHING], [("vain", 0, 20), NOTHING]):
            self.assert_refused(-1, [("field", TWO)] + more, refused)

    def test_no_field(self):
        calls = [
            ("shown",), ("vain", 0, 1), ("back", 0, 0), ("evidence", 1, 1, []), ("chances",), ("left",),
            ("would", []), ("best", 1), ("vain", -1, 99), ("back", MOST, -1), ("evidence", -1, 2000, [5]),
            ("would", [99] * 70), ("best", 61), ("curve", 1), ("curve", -1), ("price", 1), ("price", 0),
            ("thrift", 5), ("thrift", MOST), ("order", []), ("order", [99]), ("takes", []), ("takes", [0] * 61),
            ("teams",), ("can", []), ("can", [1]), ("cells",), ("counts",),
        ]
        self.assertEqual(ask(*calls), [[-20]] * len(calls))
        self.assertEqual(ask(("field", "!"), *calls)[1:], [[-20]] * len(calls))
        self.assertEqual(ask(("where", TWO), *calls)[1:], [[-20]] * len(calls))
        self.assertEqual(ask(*calls, ("field", TWO), ("chances",))[-2:], [[0, 2, 2], [0, 5, 12, 7, 12]])

    def test_vain_not_as_told(self):
        for number in NO_CELLS:
            self.assert_not_as_told(("vain", number, 1))
            self.assert_not_as_told(("vain", number, 0))
        for many in NO_EFFORTS:
            self.assert_not_as_told(("vain", 0, many))
            self.assert_not_as_told(("vain", 1, many))

    def test_vain_too_many(self):
        self.assert_refused(-3, [("field", TWO), ("vain", 0, 20)], ("vain", 0, 1))
        self.assert_refused(-3, [("field", TWO), ("vain", 1, 1)], ("vain", 1, 20))
        self.assertEqual(last(("field", TWO), ("vain", 0, 20), ("vain", 1, 20)), [0, 20])
        self.assertEqual(last(("field", TWO), ("vain", 0, 20), ("vain", 0, 0)), [0, 20])

    def test_back_not_as_told(self):
        for number in NO_CELLS:
            self.assert_not_as_told(("back", number, 1))
            self.assert_not_as_told(("back", number, 0))
        for many in NO_EFFORTS:
            self.assert_not_as_told(("back", 0, many))
            self.assert_not_as_told(("back", 1, many))

    def test_back_has_not_had_so_many(self):
        self.assert_refused(-3, [("field", TWO)], ("back", 0, 1))
        self.assert_refused(-3, [("field", TWO), ("vain", 0, 20)], ("back", 1, 1))
        self.assert_refused(-3, [("field", TWO), ("vain", 0, 19)], ("back", 0, 20))
        self.assert_refused(-3, [("field", TWO), ("vain", 0, 3), ("back", 0, 2)], ("back", 0, 2))

    def test_vain_and_back_are_done_while_nothing_is_left(self):
        self.assertEqual(ask(("field", TWO), NOTHING, ("vain", 0, 2), ("back", 0, 1))[2:], [[0, 2], [0, 1]])

    def test_evidence_not_as_told(self):
        for times in (-1, 1001, LEAST, MOST):
            self.assert_not_as_told(("evidence", times, 1, [0]))
            self.assert_not_as_told(("evidence", 1, times, [0]))
            self.assert_not_as_told(("evidence", times, 1, []))
            self.assert_not_as_told(("evidence", 1, times, [0, 1]))
        for number in NO_CELLS:
            self.assert_not_as_told(("evidence", 2, 3, [number]))
            self.assert_not_as_told(("evidence", 2, 3, [0, 1, number]))
            self.assert_not_as_told(("evidence", 2, 3, [number] + [0] * 69))

    def test_evidence_beyond_10_to_the_12(self):
        full = "parts 10;" + cell("a", 1000, 3) + cell("b", 999, 5)
        great = [("field", full)] + [("evidence", 1000, 1000, [])] * 3
        self.assertEqual(ask(*great)[1:], [[0]] * 3)
        self.assert_refused(-3, great, ("evidence", 2, 1, [0]))
        self.assert_refused(-3, great, ("evidence", 0, 2, [0]))
        self.assert_refused(-3, great, ("evidence", 1, 2, [1]))
        self.assert_refused(-3, great, ("evidence", 1000, 1000, [0, 1]))
        self.assert_refused(-1, great, ("evidence", 1000, 1000, [2]))
        self.assert_refused(-1, great, ("evidence", 1000, 1001, []))
        self.assertEqual(last(*great, ("evidence", 1, 1, [0])), [0])
        self.assertEqual(last(*great, ("evidence", 1000, 0, [])), [0])
        self.assertEqual(last(*great, ("evidence", 0, 1, [1])), [0])

    def test_just_beyond_10_to_the_12(self):
        before = [("field", "parts 10;" + cell("a", 348) + cell("b", 1))]
        before += [("evidence", times, 1, [0]) for times in (113, 229, 293)]
        self.assertEqual(348 * 113 * 229 * 293 * 379, 10 ** 12 + 212)
        self.assertEqual(last(*before, ("evidence", 378, 1, [0])), [0])
        self.assert_refused(-3, before, ("evidence", 379, 1, [0]))
        self.assert_refused(-3, before, ("evidence", 1, 379, [1]))

    def test_chances_nothing_left(self):
        self.assert_refused(-6, [("field", TWO), NOTHING], ("chances",))
        sure = "parts 10;" + cell("a", 5, 10) + cell("b", 0, 5)
        self.assert_refused(-6, [("field", sure), ("vain", 0, 1)], ("chances",))
        self.assert_refused(-6, [("field", "parts 2;" + cell("a", 0) + cell("b", 0))], ("chances",))
        self.assertEqual(last(("field", sure), ("vain", 0, 1), ("back", 0, 1), ("chances",)), [0, 1, 1, 0, 1])

    def test_left_nothing_if_nothing_had_been_done(self):
        self.assert_refused(-6, [("field", TWO), NOTHING], ("left",))
        self.assert_refused(-6, [("field", TWO), ("vain", 0, 3), NOTHING], ("left",))
        self.assert_refused(-6, [("field", "parts 2;" + cell("a", 0) + cell("b", 0))], ("left",))

    def test_would_not_as_told(self):
        for row in NO_ROWS:
            self.assert_not_as_told(("would", row))

    def test_would_too_many(self):
        before = [("field", TWO), ("vain", 1, 4)]
        for more in ([], [NOTHING]):
            self.assert_refused(-3, before + more, ("would", [0, 17]))
            self.assert_refused(-3, before + more, ("would", [20, 20]))
        self.assertEqual(last(*before, ("would", [20, 16]))[0], 0)

    def test_would_nothing_left(self):
        self.assert_refused(-6, [("field", TWO), NOTHING], ("would", [0, 0]))
        self.assert_refused(-6, [("field", TWO), NOTHING], ("would", [20, 20]))

    def test_best_and_curve_not_as_told(self):
        for many in (-1, 61, LEAST, MOST):
            self.assert_not_as_told(("best", many))
            self.assert_not_as_told(("curve", many))

    def test_best_and_curve_so_many_can_not_be_made(self):
        full = [("vain", 0, 20), ("vain", 1, 20)]
        for more in ([], [NOTHING]):
            for name in ("best", "curve"):
                self.assert_refused(-3, [("field", TWO)] + more, (name, 41))
                self.assert_refused(-3, [("field", TWO)] + more, (name, 60))
                self.assert_refused(-3, [("field", TWO), ("vain", 0, 20), ("vain", 1, 19)] + more, (name, 2))
                self.assert_refused(-3, [("field", TWO)] + full + more, (name, 1))
        self.assertEqual(last(("field", TWO), *full, ("best", 0)), [0, 0, 0, 0, 1])
        self.assertEqual(last(("field", TWO), *full, ("curve", 0)), [0, 0, 1])
        self.assertEqual(len(last(("field", TWO), ("curve", 40))), 83)

    def test_best_and_curve_nothing_left(self):
        for name in ("best", "curve"):
            self.assert_refused(-6, [("field", TWO), NOTHING], (name, 0))
            self.assert_refused(-6, [("field", TWO), NOTHING], (name, 40))

    def test_price_not_as_told(self):
        for many in (-1, 0, 60, 61, LEAST, MOST):
            self.assert_not_as_told(("price", many))

    def test_price_one_more_can_not_be_made(self):
        for more in ([], [NOTHING]):
            self.assert_refused(-3, [("field", TWO)] + more, ("price", 40))
            self.assert_refused(-3, [("field", TWO)] + more, ("price", 59))
            self.assert_refused(-3, [("field", TWO), ("vain", 0, 20), ("vain", 1, 19)] + more, ("price", 1))
            self.assert_refused(-3, [("field", TWO), ("vain", 0, 20), ("vain", 1, 20)] + more, ("price", 1))
        self.assertEqual(last(("field", TWO), ("price", 39))[0], 0)
        self.assertEqual(last(("field", TWO), ("vain", 0, 20), ("vain", 1, 18), ("price", 1))[0], 0)

    def test_price_nothing_left(self):
        self.assert_refused(-6, [("field", TWO), NOTHING], ("price", 1))
        self.assert_refused(-6, [("field", TWO), NOTHING], ("price", 39))

    def test_thrift_not_as_told(self):
        for time in (-1, 101, LEAST, MOST):
            self.assert_not_as_told(("thrift", time))

    def test_thrift_nothing_left(self):
        self.assert_refused(-6, [("field", TWO), NOTHING], ("thrift", 0))
        self.assert_refused(-6, [("field", TWO), NOTHING], ("thrift", 100))
        self.assert_refused(-6, [("field", TWO), ("vain", 0, 20), ("vain", 1, 20), NOTHING], ("thrift", 100))

    def test_order_not_as_told(self):
        for row in NO_ROWS:
            self.assert_not_as_told(("order", row))

    def test_order_too_many(self):
        before = [("field", TWO), ("vain", 1, 4)]
        for more in ([], [NOTHING]):
            self.assert_refused(-3, before + more, ("order", [0, 17]))
            self.assert_refused(-3, before + more, ("order", [20, 20]))
        self.assertEqual(last(*before, ("order", [20, 16]))[:2], [0, 36])

    def test_order_nothing_left(self):
        self.assert_refused(-6, [("field", TWO), NOTHING], ("order", [0, 0]))
        self.assert_refused(-6, [("field", TWO), NOTHING], ("order", [20, 20]))

    def test_takes_not_as_told(self):
        for order in NO_ORDERS:
            self.assert_not_as_told(("takes", order))

    def test_takes_too_many(self):
        for more in ([], [NOTHING]):
            self.assert_refused(-3, [("field", TWO)] + more, ("takes", [0] * 21))
            self.assert_refused(-3, [("field", TWO)] + more, ("takes", [0, 1] * 30))
            self.assert_refused(-3, [("field", TWO), ("vain", 1, 4)] + more, ("takes", [0] * 20 + [1] * 17))
        self.assertEqual(last(("field", TWO), ("vain", 1, 4), ("takes", [1] * 16 + [0] * 20))[0], 0)

    def test_takes_nothing_left(self):
        self.assert_refused(-6, [("field", TWO), NOTHING], ("takes", []))
        self.assert_refused(-6, [("field", TWO), NOTHING], ("takes", [0] * 20 + [1] * 20))

    def test_teams_nothing_left(self):
        self.assert_refused(-6, [("field", TWO), NOTHING], ("teams",))
        sure = "parts 10;" + cell("a", 5, 10) + cell("b", 0, 5)
        self.assert_refused(-6, [("field", sure), ("vain", 0, 1)], ("teams",))
        self.assert_refused(-6, [("field", sure + "team 1 in b;"), ("vain", 0, 1)], ("teams",))

    def test_can_not_as_told(self):
        for row in NO_ROWS:
            self.assert_not_as_told(("can", row))

    def test_can_is_told_of_twenty_more_and_while_nothing_is_left(self):
        self.assertEqual(last(("field", TWO), ("vain", 0, 20), ("can", [20, 20])), [0, 0])
        self.assertEqual(last(("field", TWO), ("vain", 0, 20), NOTHING, ("can", [3, 0])), [0, 1])

    def test_nothing_left_by_efforts_alone(self):
        sure = [("field", "parts 10;" + cell("a", 5, 10) + cell("b", 0, 5)), ("vain", 0, 1)]
        asked = (
            ("chances",), ("would", [0, 0]), ("best", 1), ("curve", 1), ("price", 1), ("thrift", 1), ("order", [1, 1]),
            ("takes", [1]), ("teams",),
        )
        for refused in asked:
            self.assert_refused(-6, sure, refused)


if __name__ == "__main__":
    unittest.main()
