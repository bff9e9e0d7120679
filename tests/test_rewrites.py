"""[16], [18] and the interface's section juststeps/rewrites.py."""

import unittest

from juststeps import errors
from juststeps.cores import is_core
from juststeps.lowering import lowered
from juststeps.programs import is_program
from juststeps.rewrites import improve, replayed, rewritten
from tests.helper import BOX, JOIN, NOT_OPEN, ROW, STRANGE, Maker, all_steps, core_of, nested

END = ("give", 0)


class StepCase(unittest.TestCase):
    """The step is of the function f; a core is told by the rows of f and the other functions."""

    def assert_step(self, step, rows, wanted, params=("whole",), result="whole", more=()):
        core = core_of(rows, params, result, more=more)
        self.assertTrue(is_core(core), core)
        step = (step[0], "f") + step[1:]
        if wanted is None:
            with self.assertRaises(errors.NotLet) as caught:
                rewritten(core, step)
            self.assertEqual(caught.exception.index, 0)
            with self.assertRaises(errors.NotLet):
                replayed(core, (step,))
            return
        other = core_of(wanted, params, result, more=more)
        self.assertTrue(is_core(other), other)
        self.assertEqual(rewritten(core, step), other)
        self.assertEqual(replayed(core, (step,)), other)

    def assert_not(self, step, rows, params=("whole",), result="whole", more=()):
        self.assert_step(step, rows, None, params, result, more)


class FoldTest(StepCase):
    def test_what_is_folded(self):
        two = (("num", 1, 7), ("num", 2, -3))
        for row, number in ((("add", 3, 1, 2), 4), (("sub", 3, 1, 2), 10), (("sub", 3, 2, 1), -10),
                            (("add", 3, 1, 1), 14), (("times", 3, 2, 5), -15), (("times", 3, 1, 0), 0)):
            self.assert_step(("fold", 2), two + (row, ("give", 3)), two + (("num", 3, number), ("give", 3)))

    def test_what_is_no_number(self):
        one = (("num", 1, 7),)
        for row in (("add", 2, 0, 1), ("add", 2, 1, 0), ("sub", 2, 0, 1), ("sub", 2, 1, 0), ("times", 2, 0, 5)):
            self.assert_not(("fold", 1), one + (row, END))
        # A sum of numbers is no known number itself.
        self.assert_not(("fold", 2), one + (("add", 2, 1, 1), ("add", 3, 2, 2), END))
        for row in (("num", 2, 1), ("make", 2, "Box", (1,)), ("call", 2, "f", (1,)), ("less", 1, 1, 3)):
            self.assert_not(("fold", 1), one + (row, END) + ((END,) if row[0] == "less" else ()))
        self.assert_not(("fold", 0), one + (END,))
        self.assert_not(("fold", 1), one + (END,))

    def test_the_bounds_of_a_number(self):
        great = 10 ** 12
        for n, m, row, number in (
            (great, 0, "add", great), (great, 1, "add", None), (-great, 0, "add", -great), (-great, -1, "add", None),
            (great, 0, "sub", great), (great, -1, "sub", None), (-great, 1, "sub", None), (great - 1, 1, "add", great),
            (great, great, "sub", 0),
        ):
            ahead = (("num", 1, n), ("num", 2, m))
            wanted = None if number is None else ahead + (("num", 3, number), END)
            self.assert_step(("fold", 2), ahead + ((row, 3, 1, 2), END), wanted)
        for n, m, number in ((10 ** 6, 10 ** 6, great), (10 ** 6 + 1, 10 ** 6, None), (-10 ** 6, 10 ** 6, -great),
                             (-10 ** 6 - 1, 10 ** 6, None), (great, -1, -great), (great, 2, None)):
            wanted = None if number is None else (("num", 1, n), ("num", 3, number), END)
            self.assert_step(("fold", 1), (("num", 1, n), ("times", 3, 1, m), END), wanted)

    def test_in_a_branch(self):
        rows = (("num", 1, 1), ("less", 0, 1, 4), ("add", 2, 1, 1), ("give", 2), END)
        self.assert_step(("fold", 2), rows, rows[:2] + (("num", 2, 2),) + rows[3:])


class DecideTest(StepCase):
    def less(self, n, m):
        return (("num", 1, n), ("num", 2, m), ("less", 1, 2, 5), ("times", 3, 0, 2), ("give", 3),
                ("times", 4, 0, 3), ("give", 4))

    def test_less(self):
        for n, m, taken in ((1, 2, True), (2, 2, False), (3, 2, False)):
            rows = self.less(n, m)
            self.assert_step(("decide", 2), rows, rows[:2] + (rows[3:5] if taken else rows[5:]))

    def test_less_of_what_is_no_number(self):
        self.assert_not(("decide", 1), (("num", 1, 1), ("less", 0, 1, 3), END, END))
        self.assert_not(("decide", 1), (("num", 1, 1), ("less", 1, 0, 3), END, END))
        self.assert_not(("decide", 0), (("less", 0, 0, 2), END, END))
        for at in (0, 1, 3, 4):
            self.assert_not(("decide", at), self.less(1, 2))

    def test_indexes_move_along(self):
        # The decided row begins the second branch, and the third one lies behind.
        rows = (("num", 1, 1), ("less", 0, 1, 9), ("less", 0, 0, 4), END, ("less", 1, 1, 7), ("num", 2, 5), ("give", 2),
                ("num", 3, 6), ("give", 3), ("num", 4, 7), ("give", 4))
        self.assert_step(("decide", 4), rows, (
            ("num", 1, 1), ("less", 0, 1, 6), ("less", 0, 0, 4), END, ("num", 3, 6), ("give", 3), ("num", 4, 7),
            ("give", 4)))
        rows = rows[:4] + (("num", 5, 2), ("less", 1, 5, 8), ("num", 2, 5), ("give", 2)) + rows[7:]
        rows = rows[:1] + (("less", 0, 1, 10),) + rows[2:]
        self.assert_step(("decide", 5), rows, (
            ("num", 1, 1), ("less", 0, 1, 7), ("less", 0, 0, 4), END, ("num", 5, 2), ("num", 2, 5), ("give", 2),
            ("num", 4, 7), ("give", 4)))

    def test_branches_that_end_with_a_go(self):
        go = ("go", "f", (0,))
        rows = (("less", 0, 0, 7), ("num", 1, 1), ("less", 1, 1, 5), ("num", 2, 5), go, ("num", 3, 6), go,
                ("num", 4, 7), go)
        self.assert_step(("decide", 2), rows, (
            ("less", 0, 0, 4), ("num", 1, 1), ("num", 3, 6), go, ("num", 4, 7), go))
        rows = rows[:1] + (("num", 1, 1), ("times", 2, 0, 3), ("add", 9, 0, 0), go) + rows[7:]
        rows = (("less", 0, 0, 5),) + rows[1:]
        self.assert_step(("drop", 1), rows, (("less", 0, 0, 4),) + rows[2:])
        rows = (("num", 1, 1), ("num", 2, 2), ("less", 1, 2, 4), go, go)
        self.assert_step(("decide", 2), rows, rows[:2] + (go,))

    MATCH = (("make", 2, "Cons", (0, 1)), ("match", 2, (("Nil", (), 2), ("Cons", (3, 4), 4))), ("num", 5, 1),
             ("give", 5), ("call", 6, "f", (3, 4)), ("add", 7, 6, 3), ("give", 7))
    BOTH = ("whole", "Row")

    def test_match_of_what_is_made(self):
        self.assert_step(("decide", 1), self.MATCH, (
            ("make", 2, "Cons", (0, 1)), ("call", 6, "f", (0, 1)), ("add", 7, 6, 0), ("give", 7)), self.BOTH)
        self.assert_step(("decide", 1), (("make", 2, "Nil", ()),) + self.MATCH[1:], (
            ("make", 2, "Nil", ()), ("num", 5, 1), ("give", 5)), self.BOTH)

    def test_match_of_what_is_not_known(self):
        rows = (("match", 1, (("Nil", (), 1), ("Cons", (2, 3), 2))), END, END)
        self.assert_not(("decide", 0), rows, self.BOTH)
        # That a kind has one maker makes nothing known.
        self.assert_not(("decide", 0), (("match", 0, (("Box", (1,), 1),)), ("give", 1)), ("Box",))
        rows = (("call", 1, "f", (0,)), ("match", 1, (("Box", (2,), 2),)), ("give", 1))
        self.assert_not(("decide", 1), rows, ("whole",), "Box")

    def test_match_of_what_was_matched(self):
        rows = (("match", 1, (("Nil", (), 1), ("Cons", (2, 3), 4))),
                ("match", 1, (("Nil", (), 2), ("Cons", (4, 5), 3))), END, ("give", 4),
                ("match", 1, (("Nil", (), 5), ("Cons", (6, 7), 6))), END, ("match", 7, (
                    ("Nil", (), 7), ("Cons", (8, 9), 8))), ("give", 6), ("give", 8))
        self.assert_step(("decide", 1), rows, (
            ("match", 1, (("Nil", (), 1), ("Cons", (2, 3), 2))), END) + (
            ("match", 1, (("Nil", (), 3), ("Cons", (6, 7), 4))), END, ("match", 7, (
                ("Nil", (), 5), ("Cons", (8, 9), 6))), ("give", 6), ("give", 8)), self.BOTH)
        self.assert_step(("decide", 4), rows, rows[:4] + (
            ("match", 3, (("Nil", (), 5), ("Cons", (8, 9), 6))), ("give", 2), ("give", 8)), self.BOTH)
        self.assert_not(("decide", 6), rows, self.BOTH)

    def test_a_match_in_another_branch_tells_nothing(self):
        match = ("match", 1, (("Nil", (), 2), ("Cons", (2, 3), 3)))
        rows = (("less", 0, 0, 4), match, END, END, ("match", 1, (("Nil", (), 5), ("Cons", (4, 5), 6))), END, END)
        self.assert_not(("decide", 4), rows, self.BOTH)

    def test_the_first_row_tells(self):
        # The second match is never gone into by its branch Cons; the make stands ahead of it.
        rows = (("make", 2, "Nil", ()), ("match", 2, (("Nil", (), 2), ("Cons", (3, 4), 3))), END,
                ("match", 2, (("Nil", (), 4), ("Cons", (5, 6), 5))), END, ("give", 5))
        self.assert_step(("decide", 3), rows, rows[:3] + (END,), self.BOTH)
        rows = (("match", 1, (("Nil", (), 1), ("Cons", (3, 4), 2))), END,
                ("match", 1, (("Nil", (), 3), ("Cons", (5, 6), 4))), END,
                ("match", 1, (("Nil", (), 5), ("Cons", (7, 8), 6))), END, ("add", 9, 7, 5), ("give", 9))
        self.assert_step(("decide", 4), rows, rows[:4] + (("add", 9, 3, 5), ("give", 9)), self.BOTH)
        self.assert_step(("decide", 2), rows, rows[:2] + (
            ("match", 1, (("Nil", (), 3), ("Cons", (7, 8), 4))), END, ("add", 9, 7, 3), ("give", 9)), self.BOTH)

    def test_a_make_behind_or_beside_tells_nothing(self):
        rows = (("less", 0, 0, 3), ("make", 2, "Nil", ()), END,
                ("match", 1, (("Nil", (), 4), ("Cons", (3, 4), 5))), END, END)
        self.assert_not(("decide", 3), rows, self.BOTH)

    def test_no_branch(self):
        for at in (0, 2, 3):
            self.assert_not(("decide", at), self.MATCH, self.BOTH)


class DropTest(StepCase):
    def test_what_is_dropped(self):
        for row in (("num", 2, 1), ("add", 2, 0, 0), ("sub", 2, 0, 0), ("times", 2, 0, 3), ("make", 2, "Cons", (0, 1)),
                    ("make", 2, "Nil", ())):
            self.assert_step(("drop", 0), (row, END), (END,), ("whole", "Row"))

    def test_what_is_used_anywhere(self):
        ahead = ("num", 1, 1)
        for rows in ((("give", 1),), (("add", 2, 1, 0), END), (("add", 2, 0, 1), END), (("sub", 2, 1, 0), END),
                     (("times", 2, 1, 3), END), (("make", 2, "Box", (1,)), END), (("call", 2, "f", (1,)), END),
                     (("less", 1, 0, 3), END, END), (("less", 0, 1, 3), END, END), (("go", "f", (1,)),),
                     (("less", 0, 0, 3), END, ("give", 1)), (("less", 0, 0, 3), ("give", 1), END)):
            self.assert_not(("drop", 0), (ahead,) + rows)
        match = ("match", 1, (("Nil", (), 2), ("Cons", (2, 3), 3)))
        self.assert_not(("drop", 0), (("make", 1, "Nil", ()), match, END, END))

    def test_a_number_that_is_no_variable_does_not_count_as_used(self):
        rows = (("num", 3, 1), ("less", 0, 0, 3), END, END)
        self.assert_step(("drop", 0), rows, (("less", 0, 0, 2), END, END))
        rows = (("num", 3, 1), ("num", 1, 3), ("times", 2, 1, 3), ("go", "f", (2,)))
        self.assert_step(("drop", 0), rows, rows[1:])
        rows = (("num", 2, 1), ("match", 1, (("Nil", (), 2), ("Cons", (3, 4), 3))), END, END)
        self.assert_step(("drop", 0), rows, (
            ("match", 1, (("Nil", (), 1), ("Cons", (3, 4), 2))), END, END), ("whole", "Row"))

    def test_event_rows(self):
        rows = (("call", 1, "f", (0,)), ("less", 0, 0, 3), END, END)
        for at in range(4):
            self.assert_not(("drop", at), rows)

    def test_indexes_move_along(self):
        rows = (("num", 1, 1), ("less", 0, 0, 4), ("num", 2, 2), END, ("num", 3, 3), ("less", 0, 0, 7), END, END)
        self.assert_step(("drop", 0), rows, (
            ("less", 0, 0, 3), ("num", 2, 2), END, ("num", 3, 3), ("less", 0, 0, 6), END, END))
        self.assert_step(("drop", 2), rows, (
            ("num", 1, 1), ("less", 0, 0, 3), END, ("num", 3, 3), ("less", 0, 0, 6), END, END))
        self.assert_step(("drop", 4), rows, (
            ("num", 1, 1), ("less", 0, 0, 4), ("num", 2, 2), END, ("less", 0, 0, 6), END, END))
        rows = (("match", 1, (("Nil", (), 1), ("Cons", (2, 3), 3))), ("num", 4, 1), END, ("num", 5, 1), END)
        self.assert_step(("drop", 1), rows, (
            ("match", 1, (("Nil", (), 1), ("Cons", (2, 3), 2))), END, ("num", 5, 1), END), ("whole", "Row"))
        self.assert_step(("drop", 3), rows, rows[:3] + (END,), ("whole", "Row"))


class ReuseTest(StepCase):
    def test_equal_plain_rows(self):
        for first in (("num", 2, 5), ("add", 2, 0, 0), ("sub", 2, 0, 0), ("times", 2, 0, 5),
                      ("make", 2, "Cons", (0, 1)), ("make", 2, "Nil", ())):
            again = first[:1] + (3,) + first[2:]
            for last, wanted in ((END, END), (("go", "f", (0, 1)), ("go", "f", (0, 1)))):
                self.assert_step(("reuse", 1, 0), (first, again, last), (first, wanted), ("whole", "Row"))

    def test_x_becomes_the_other_x_in_all_rows(self):
        rows = (("num", 1, 5), ("num", 2, 5), ("less", 2, 0, 8), ("add", 3, 2, 2), ("times", 4, 2, 3),
                ("make", 5, "Box", (2,)), ("call", 6, "f", (2,)), ("go", "f", (2,)), ("sub", 7, 0, 2), ("less", 0, 2, 11),
                ("give", 2), ("give", 7))
        self.assert_step(("reuse", 1, 0), rows, (
            ("num", 1, 5), ("less", 1, 0, 7), ("add", 3, 1, 1), ("times", 4, 1, 3), ("make", 5, "Box", (1,)),
            ("call", 6, "f", (1,)), ("go", "f", (1,)), ("sub", 7, 0, 1), ("less", 0, 1, 10), ("give", 1), ("give", 7)))
        match = (("Nil", (), 3), ("Cons", (2, 3), 4))
        rows = (("make", 0, "Nil", ()), ("make", 1, "Nil", ()), ("match", 1, match), ("give", 0), ("give", 1))
        self.assert_step(("reuse", 1, 0), rows, (
            rows[0], ("match", 0, (("Nil", (), 2), ("Cons", (2, 3), 3))), ("give", 0), ("give", 0)), (), "Row")

    def test_numbers_that_are_no_variables_stay(self):
        rows = (("num", 1, 2), ("num", 2, 2), ("num", 4, 2), ("times", 3, 2, 2), ("times", 5, 0, 2), ("less", 0, 2, 7),
                END, ("add", 6, 3, 5), ("give", 6))
        self.assert_step(("reuse", 1, 0), rows, (
            ("num", 1, 2), ("num", 4, 2), ("times", 3, 1, 2), ("times", 5, 0, 2), ("less", 0, 1, 6), END,
            ("add", 6, 3, 5), ("give", 6)))

    def test_rows_that_are_not_equal(self):
        for first, second in ((("num", 1, 5), ("num", 2, 6)), (("add", 1, 0, 0), ("sub", 2, 0, 0)),
                              (("times", 1, 0, 5), ("times", 2, 0, 4)), (("add", 1, 0, 0), ("add", 2, 0, 1)),
                              (("make", 1, "Box", (0,)), ("make", 2, "Nil", ())), (("num", 1, 0), ("times", 2, 0, 0))):
            self.assert_not(("reuse", 1, 0), (first, second, END))
        rows = (("num", 1, 5), ("num", 2, 4), ("add", 3, 1, 2), ("add", 4, 2, 1), END)
        self.assert_not(("reuse", 3, 2), rows)

    def test_other_is_ahead_on_the_way(self):
        rows = (("num", 1, 5), ("num", 2, 5), END)
        for at, other in ((0, 1), (0, 0), (1, 1), (1, 2), (2, 0), (0, 2)):
            self.assert_not(("reuse", at, other), rows)
        rows = (("less", 0, 0, 3), ("num", 1, 5), END, ("num", 2, 5), END)
        self.assert_not(("reuse", 3, 1), rows)
        rows = (("num", 3, 5),) + (("less", 0, 0, 4),) + rows[1:]
        self.assert_step(("reuse", 4, 0), rows, rows[:4] + (END,))

    def test_event_rows_are_not_reused(self):
        rows = (("call", 1, "f", (0,)), ("call", 2, "f", (0,)), ("less", 0, 0, 4), END, END)
        for at in range(5):
            for other in range(5):
                self.assert_not(("reuse", at, other), rows)

    MATCH = (("match", 1, (("Nil", (), 1), ("Cons", (2, 3), 3))), ("make", 4, "Nil", ()), ("go", "f", (0, 4)),
             ("make", 5, "Cons", (2, 3)), ("go", "f", (2, 5)))
    BOTH = ("whole", "Row")

    def test_a_make_of_what_was_matched(self):
        self.assert_step(("reuse", 3, 0), self.MATCH, self.MATCH[:3] + (("go", "f", (2, 1)),), self.BOTH)
        self.assert_step(("reuse", 1, 0), self.MATCH, (
            ("match", 1, (("Nil", (), 1), ("Cons", (2, 3), 2))), ("go", "f", (0, 1)), ("make", 5, "Cons", (2, 3)),
            ("go", "f", (2, 5))), self.BOTH)

    def test_a_make_of_something_else(self):
        def branch(nil, cons):
            return self.MATCH[:1] + (nil, END, cons, END)

        nil, cons = ("num", 4, 1), ("make", 5, "Cons", (2, 3))
        self.assert_step(("reuse", 3, 0), branch(nil, cons), branch(nil, cons)[:3] + (END,), self.BOTH)
        for other in (("make", 5, "Cons", (2, 1)), ("make", 5, "Cons", (0, 3)), ("make", 5, "Nil", ()),
                      ("make", 5, "Box", (2,)), ("num", 5, 1), ("call", 5, "f", (2, 3))):
            self.assert_not(("reuse", 3, 0), branch(nil, other), self.BOTH)
        self.assert_not(("reuse", 1, 0), branch(("make", 4, "Cons", (0, 1)), cons), self.BOTH)
        rows = (("less", 0, 0, 2), END, ("make", 2, "Nil", ()), END)
        self.assert_not(("reuse", 2, 0), rows)

    def test_a_match_on_the_way_with_its_own_vars(self):
        rows = (("match", 1, (("Nil", (), 1), ("Cons", (2, 3), 2))), END,
                ("match", 3, (("Nil", (), 3), ("Cons", (4, 5), 4))), END,
                ("make", 6, "Cons", (4, 5)), ("make", 7, "Cons", (2, 3)), ("make", 8, "Cons", (2, 6)), ("go", "f", (0, 8)))
        self.assert_step(("reuse", 4, 2), rows, rows[:4] + (
            ("make", 7, "Cons", (2, 3)), ("make", 8, "Cons", (2, 3)), ("go", "f", (0, 8))), self.BOTH)
        self.assert_step(("reuse", 5, 0), rows, rows[:5] + rows[6:], self.BOTH)
        for at, other in ((4, 0), (5, 2), (6, 0), (6, 2), (6, 5)):
            self.assert_not(("reuse", at, other), rows, self.BOTH)

    def test_both_ways_of_a_make(self):
        rows = self.MATCH[:3] + (("make", 5, "Cons", (2, 3)), ("make", 6, "Cons", (2, 3)), ("go", "f", (2, 6)))
        self.assert_step(("reuse", 4, 3), rows, rows[:4] + (("go", "f", (2, 5)),), self.BOTH)
        self.assert_step(("reuse", 4, 0), rows, rows[:4] + (("go", "f", (2, 1)),), self.BOTH)


class TailTest(StepCase):
    def test_a_call_whose_value_is_given(self):
        self.assert_step(("tail", 0), (("call", 1, "f", (0,)), ("give", 1)), (("go", "f", (0,)),))
        more = (("g", ("whole", "whole"), "whole", (END,)),)
        self.assert_step(("tail", 1), (("num", 1, 5), ("call", 2, "g", (1, 0)), ("give", 2)), (
            ("num", 1, 5), ("go", "g", (1, 0))), more=more)

    def test_indexes_move_along(self):
        rows = (("less", 0, 0, 3), ("call", 1, "f", (0,)), ("give", 1), ("less", 0, 0, 6), ("call", 2, "f", (0,)),
                ("give", 2), ("call", 3, "f", (0,)), ("give", 3))
        self.assert_step(("tail", 1), rows, (
            ("less", 0, 0, 2), ("go", "f", (0,)), ("less", 0, 0, 5), ("call", 2, "f", (0,)), ("give", 2),
            ("call", 3, "f", (0,)), ("give", 3)))
        self.assert_step(("tail", 4), rows, rows[:3] + (
            ("less", 0, 0, 5), ("go", "f", (0,)), ("call", 3, "f", (0,)), ("give", 3)))
        self.assert_step(("tail", 6), rows, rows[:6] + (("go", "f", (0,)),))

    def test_what_is_no_tail(self):
        call = ("call", 1, "f", (0,))
        for rest in ((END,), (("num", 2, 1), ("give", 1)), (("add", 2, 1, 1), ("give", 2)), (("go", "f", (1,)),),
                     (("call", 2, "f", (0,)), ("give", 1)), (("less", 1, 1, 3), ("give", 1), ("give", 1))):
            self.assert_not(("tail", 0), (call,) + rest)
        for at in range(2):
            self.assert_not(("tail", at), (("num", 1, 1), ("give", 1)))
        self.assert_not(("tail", 0), (("go", "f", (0,)),))
        self.assert_not(("tail", 1), (call, ("give", 1)))


class OpenTest(StepCase):
    G = ("g", ("whole", "whole"), "whole", (
        ("less", 0, 1, 3), ("add", 9, 1, 0), ("give", 9), ("num", 4, 2), ("sub", 2, 4, 1), ("go", "g", (2, 0))))

    def test_a_go(self):
        rows = (("num", 7, 5), ("go", "g", (7, 0)))
        self.assert_step(("open", 1), rows, (
            ("num", 7, 5), ("less", 7, 0, 4), ("add", 8, 0, 7), ("give", 8), ("num", 9, 2), ("sub", 10, 9, 0),
            ("go", "g", (10, 7))), more=(self.G,))
        self.assert_step(("open", 0), (("go", "g", (0, 0)),), (
            ("less", 0, 0, 3), ("add", 1, 0, 0), ("give", 1), ("num", 2, 2), ("sub", 3, 2, 0), ("go", "g", (3, 0))),
            more=(self.G,))

    def test_new_variables_come_in_the_order_in_which_rows_bind_them(self):
        g = ("g", ("Row",), "whole", (
            ("num", 30, 1), ("match", 0, (("Nil", (), 2), ("Cons", (20, 10), 4))), ("num", 5, 3), ("give", 5),
            ("match", 10, (("Nil", (), 5), ("Cons", (3, 2), 6))), ("give", 20), ("add", 1, 3, 30), ("give", 1)))
        rows = (("make", 4, "Nil", ()), ("less", 0, 0, 3), ("go", "g", (4,)), ("num", 6, 1), END)
        self.assert_step(("open", 2), rows, (
            ("make", 4, "Nil", ()), ("less", 0, 0, 10), ("num", 7, 1),
            ("match", 4, (("Nil", (), 4), ("Cons", (8, 9), 6))), ("num", 10, 3), ("give", 10),
            ("match", 9, (("Nil", (), 7), ("Cons", (11, 12), 8))), ("give", 8), ("add", 13, 11, 7), ("give", 13),
            ("num", 6, 1), END), more=(g,))

    def test_the_greatest_variable_may_be_anywhere(self):
        g = ("g", (), "whole", (("num", 0, 1), ("give", 0)))
        for rows, fresh in (
            ((("go", "g", ()), ("num", 50, 1), END), 51),
            ((("go", "g", ()), ("match", 1, (("Nil", (), 3), ("Cons", (2, 40), 4))), END, END), 41),
            ((("go", "g", ()), END), 2),
        ):
            rows = (("less", 0, 0, 2),) + rows
            wanted = (("less", 0, 0, 3), ("num", fresh, 1), ("give", fresh)) + rows[2:]
            if rows[2][0] == "match":
                wanted = wanted[:3] + (("match", 1, (("Nil", (), 4), ("Cons", (2, 40), 5))),) + rows[3:]
            self.assert_step(("open", 1), rows, wanted, ("whole", "Row"), more=(g,))

    def test_numbers_of_rows_that_come_in_stay(self):
        g = ("g", ("whole",), "whole", (("num", 1, 1), ("times", 2, 1, 1), ("times", 3, 0, 2), ("less", 2, 3, 5),
                                        ("give", 2), ("give", 3)))
        self.assert_step(("open", 1), (("num", 1, 7), ("go", "g", (1,))), (
            ("num", 1, 7), ("num", 2, 1), ("times", 3, 2, 1), ("times", 4, 1, 2), ("less", 3, 4, 6), ("give", 3),
            ("give", 4)), more=(g,))

    def test_a_function_without_variables(self):
        g = ("g", (), "whole", (("num", 7, 1), ("give", 7)))
        self.assert_step(("open", 0), (("go", "g", ()),), (("num", 0, 1), ("give", 0)), (), more=(g,))

    def test_a_function_opened_into_itself(self):
        rows = (("less", 0, 1, 4), ("num", 2, 1), ("add", 3, 0, 2), ("go", "f", (3, 1)), ("give", 0))
        self.assert_step(("open", 3), rows, (
            ("less", 0, 1, 8), ("num", 2, 1), ("add", 3, 0, 2), ("less", 3, 1, 7), ("num", 4, 1), ("add", 5, 3, 4),
            ("go", "f", (5, 1)), ("give", 3), ("give", 0)), ("whole", "whole"))
        # Params are exchanged, all at once.
        rows = (("go", "f", (1, 0)),)
        self.assert_step(("open", 0), rows, (("go", "f", (0, 1)),), ("whole", "whole"))

    def test_a_call(self):
        g = ("g", ("whole", "whole"), "whole", (("num", 5, 2), ("call", 3, "f", (1,)), ("sub", 9, 5, 3), ("give", 9)))
        rows = (("less", 0, 0, 4), ("call", 1, "g", (0, 0)), ("add", 2, 1, 0), ("give", 1), ("call", 3, "g", (0, 0)),
                ("give", 3))
        self.assert_step(("open", 1), rows, (
            ("less", 0, 0, 6), ("num", 4, 2), ("call", 5, "f", (0,)), ("sub", 6, 4, 5), ("add", 2, 6, 0), ("give", 6),
            ("call", 3, "g", (0, 0)), ("give", 3)), more=(g,))
        self.assert_step(("open", 4), rows, rows[:4] + (
            ("num", 4, 2), ("call", 5, "f", (0,)), ("sub", 6, 4, 5), ("give", 6)), more=(g,))

    def test_new_variables_lie_above_the_opened_call_too(self):
        g = ("g", (), "whole", (("num", 0, 2), ("give", 0)))
        self.assert_step(("open", 0), (("call", 8, "g", ()), ("give", 8)), (("num", 9, 2), ("give", 9)), more=(g,))

    def test_a_call_whose_rows_are_none(self):
        g = ("g", ("whole", "whole"), "whole", (("give", 1),))
        rows = (("num", 5, 1), ("less", 0, 0, 4), ("call", 1, "g", (5, 0)), ("go", "f", (1,)), ("call", 2, "g", (0, 5)),
                ("make", 3, "Box", (2,)), ("give", 2))
        self.assert_step(("open", 2), rows, (
            ("num", 5, 1), ("less", 0, 0, 3), ("go", "f", (0,)), ("call", 2, "g", (0, 5)), ("make", 3, "Box", (2,)),
            ("give", 2)), more=(g,))
        self.assert_step(("open", 4), rows, rows[:4] + (("make", 3, "Box", (5,)), ("give", 5)), more=(g,))

    def test_a_call_of_the_function_itself(self):
        rows = (("num", 1, 2), ("call", 2, "f", (1,)), ("give", 2))
        self.assert_step(("open", 1), rows, (
            ("num", 1, 2), ("num", 3, 2), ("call", 4, "f", (3,)), ("give", 4)))

    def test_calls_that_cannot_be_opened(self):
        for g_rows in ((("less", 0, 0, 2), END, END), (("go", "g", (0, 1)),),
                       (("match", 1, (("Nil", (), 1), ("Cons", (2, 3), 2))), END, END)):
            g = ("g", ("whole", "Row"), "whole", g_rows)
            rows = (("make", 1, "Nil", ()), ("call", 2, "g", (0, 1)), ("give", 2))
            self.assert_not(("open", 1), rows, more=(g,))
            self.assert_step(("open", 1), rows[:1] + (("go", "g", (0, 1)),), rows[:1] + tuple(
                self.moved(row) for row in g_rows), more=(g,))
        g = ("g", ("Box",), "whole", (("match", 0, (("Box", (1,), 1),)), ("give", 1)))
        self.assert_not(("open", 1), (("make", 1, "Box", (0,)), ("call", 2, "g", (1,)), ("give", 2)), more=(g,))

    def moved(self, row):
        """A row of g that came in behind one other row, with params 0 and 1."""
        if row[0] == "less":
            return row[:3] + (row[3] + 1,)
        if row[0] == "match":
            return row[:2] + (tuple((maker, parts, start + 1) for maker, parts, start in row[2]),)
        return row

    def test_rows_that_are_no_call_and_no_go(self):
        rows = (("num", 1, 1), ("less", 0, 0, 3), END, END)
        for at in range(4):
            self.assert_not(("open", at), rows)

    def test_240_rows_and_241(self):
        g = ("g", (), "whole", (("num", 0, 1), ("num", 1, 1), ("num", 2, 1), ("give", 0)))
        for many, right in ((237, True), (238, False)):
            rows = tuple(("num", at, 1) for at in range(1, many)) + (("go", "g", ()),)
            self.assertEqual(len(rows), many)
            core = core_of(rows, ("whole",), more=(g,))
            if right:
                self.assertEqual(len(rewritten(core, ("open", "f", many - 1))[1][0][3]), 240)
            else:
                self.assert_not(("open", many - 1), rows, more=(g,))
        # A call brings in one row less, and its own row falls away.
        for many, right in ((238, True), (239, False)):
            rows = tuple(("num", at, 1) for at in range(1, many - 1)) + (("call", 300, "g", ()), ("give", 300))
            core = core_of(rows, ("whole",), more=(g,))
            self.assertEqual(len(rows), many)
            if right:
                self.assertEqual(len(rewritten(core, ("open", "f", many - 2))[1][0][3]), 240)
            else:
                self.assert_not(("open", many - 2), rows, more=(g,))

    def test_variables_399_and_400(self):
        g = ("g", (), "whole", (("num", 0, 1), ("num", 1, 1), ("give", 1)))
        rows = (("num", 397, 1), ("go", "g", ()))
        self.assert_step(("open", 1), rows, (("num", 397, 1), ("num", 398, 1), ("num", 399, 1), ("give", 399)), more=(g,))
        self.assert_not(("open", 1), (("num", 398, 1), ("go", "g", ())), more=(g,))
        self.assert_not(("open", 1), (("num", 399, 1), ("go", "g", ())), more=(g,))
        # Nothing is bound, so nothing is too great.
        same = ("g", ("whole",), "whole", (END,))
        self.assert_step(("open", 1), (("num", 399, 1), ("go", "g", (399,))), (("num", 399, 1), ("give", 399)),
                         more=(same,))


class NamedFunctionTest(unittest.TestCase):
    def test_only_the_function_with_the_name_changes(self):
        rows = (("num", 1, 1), ("give", 0))
        functions = tuple((name, ("whole",), "whole", rows) for name in "fgh")
        other = ("g", ("whole",), "whole", (("give", 0),))
        core = ((ROW, BOX), functions)
        self.assertEqual(rewritten(core, ("drop", "g", 0)), ((ROW, BOX), (functions[0], other, functions[2])))
        self.assertEqual(rewritten(core=core, step=("drop", "g", 0)), rewritten(core, ("drop", "g", 0)))
        self.assertEqual(core[1], functions)

    def test_steps_of_a_log_are_done_in_their_order(self):
        rows = (("num", 1, 2), ("add", 2, 1, 1), ("less", 0, 2, 4), END, ("call", 3, "f", (2,)), ("give", 3))
        core = core_of(rows, ("whole",))
        log = (("fold", "f", 1), ("drop", "f", 0), ("tail", "f", 3))
        self.assertEqual(replayed(core=core, log=log), core_of(
            (("num", 2, 4), ("less", 0, 2, 3), END, ("go", "f", (2,))), ("whole",)))
        self.assertEqual(replayed(core, ()), core)
        for at, wrong in ((0, ("drop", "f", 0)), (1, ("drop", "f", 1)), (2, ("tail", "f", 4)), (1, None), (2, [])):
            with self.assertRaises(errors.NotLet) as caught:
                replayed(core, log[:at] + (wrong,) + log[at:])
            self.assertEqual(caught.exception.index, at)


class WrongInputTest(unittest.TestCase):
    CORE = core_of((("num", 1, 1), ("num", 2, 1), ("call", 3, "f", (0,)), ("give", 3)), ("whole",))

    def assert_not_let(self, step):
        with self.assertRaises(errors.NotLet) as caught:
            rewritten(self.CORE, step)
        self.assertEqual(caught.exception.index, 0)
        with self.assertRaises(errors.NotLet) as caught:
            replayed(self.CORE, (("drop", "f", 0), step))
        self.assertEqual(caught.exception.index, 1)

    def test_no_steps(self):
        for thing in STRANGE + (nested(80),):
            self.assert_not_let(thing)
            self.assert_not_let(("drop", "f", thing))
            self.assert_not_let(("drop", thing, 0))
            self.assert_not_let((thing, "f", 0))
            self.assert_not_let(("reuse", "f", 1, thing))
            self.assert_not_let(("reuse", "f", thing, 0))
        for step in (["drop", "f", 1], ("drop", "f"), ("drop", "f", 1, 0), ("reuse", "f", 1), ("reuse", "f", 1, 0, 0),
                     ("drop", "f", True), ("drop", "f", False), ("reuse", "f", True, 0), ("reuse", "f", 1, False),
                     ("drop", "g", 1), ("drop", "f", 4), ("drop", "f", -1), ("Drop", "f", 1), ("drop ", "f", 1),
                     ("reuse", "f", 1, -4), ("tail", "f", 2, 3), ("", "f", 0)):
            self.assert_not_let(step)

    def test_errors_and_of_two_wrong_arguments_the_first(self):
        for thing in STRANGE:
            for call in (lambda: rewritten(thing, None), lambda: replayed(thing, None), lambda: improve(thing, None)):
                with self.assertRaises(errors.BadCore):
                    call()
            if thing != ():
                with self.assertRaises((errors.BadLog, errors.NotLet) if isinstance(thing, tuple) else errors.BadLog):
                    replayed(JOIN, thing)
            if isinstance(thing, bool) or not isinstance(thing, int) or thing < 0:
                with self.assertRaises(errors.BadLimit):
                    improve(JOIN, thing)

    def test_logs_of_400_steps_and_401(self):
        # Each open turns three params twice as often: by one, by two, by one, ..
        core = core_of((("go", "f", (1, 2, 0)),), ("whole",) * 3)
        step = ("open", "f", 0)
        self.assertEqual(replayed(core, (step,) * 400), core)
        self.assertEqual(replayed(core, (step,) * 399), core_of((("go", "f", (2, 0, 1)),), ("whole",) * 3))
        with self.assertRaises(errors.BadLog):
            replayed(core, (step,) * 401)
        with self.assertRaises(errors.BadLog):
            replayed(core, (None,) * 401)
        with self.assertRaises(errors.BadLog):
            replayed(core, [step])
        with self.assertRaises(errors.NotLet) as caught:
            replayed(core, (step,) * 399 + (None,))
        self.assertEqual(caught.exception.index, 399)

    def test_limits_of_improve(self):
        for most in (-1, 401, True, False, "1", None, (), 10 ** 30):
            with self.assertRaises(errors.BadLimit):
                improve(JOIN, most)
        for most in (0, 400):
            other, log = improve(core=JOIN, most=most)
            self.assertEqual(replayed(JOIN, log), other)


class ImproveTest(unittest.TestCase):
    def assert_improved(self, core, most=400):
        """The log leads to the core, has no open, and nothing more is let if it ends early."""
        other, log = improve(core, most)
        self.assertTrue(is_core(other))
        self.assertEqual(replayed(core, log), other)
        self.assertLessEqual(len(log), most)
        self.assertTrue(all(step[0] in NOT_OPEN for step in log))
        if len(log) < most:
            for step in all_steps(other, NOT_OPEN):
                with self.assertRaises(errors.NotLet):
                    rewritten(other, step)
        return other, log

    def test_nothing_to_do(self):
        self.assertEqual(self.assert_improved(JOIN), (JOIN, ()))
        self.assertEqual(improve(((), ()), 400), (((), ()), ()))

    def test_most(self):
        rows = tuple(("num", at, at) for at in range(1, 40)) + (("give", 0),)
        core = core_of(rows, ("whole",), more=(("g", ("whole",), "whole", rows),))
        self.assertEqual(improve(core, 0), (core, ()))
        for most in (1, 5, 40, 77):
            self.assertEqual(len(self.assert_improved(core, most)[1]), most)
        for most in (78, 79, 400):
            other, log = self.assert_improved(core, most)
            self.assertEqual(len(log), 78)
            self.assertEqual([function[3] for function in other[1]], [(("give", 0),)] * 2)

    def test_each_rule_is_found(self):
        for rule, rows, params in (
            ("fold", (("num", 1, 2), ("add", 2, 1, 1), ("add", 3, 2, 1), ("add", 4, 0, 3), ("give", 4)), ("whole",)),
            ("decide", (("num", 1, 2), ("less", 1, 1, 3), ("give", 0), ("give", 1)), ("whole",)),
            ("decide", (("match", 1, (("Nil", (), 1), ("Cons", (2, 3), 2))), ("give", 0),
                        ("match", 1, (("Nil", (), 3), ("Cons", (4, 5), 4))), ("give", 0), ("give", 4)),
             ("whole", "Row")),
            ("drop", (("make", 1, "Box", (0,)), ("give", 0)), ("whole",)),
            ("reuse", (("times", 1, 0, 2), ("less", 1, 0, 3), ("give", 0), ("times", 2, 0, 2), ("give", 2)), ("whole",)),
            ("reuse", (("match", 1, (("Nil", (), 1), ("Cons", (2, 3), 2))), ("give", 0),
                       ("make", 4, "Cons", (2, 3)), ("call", 5, "f", (0, 4)), ("add", 6, 5, 0), ("give", 6)),
             ("whole", "Row")),
            ("tail", (("call", 1, "f", (0,)), ("give", 1)), ("whole",)),
        ):
            _, log = self.assert_improved(core_of(rows, params))
            self.assertIn(rule, [step[0] for step in log], rows)

    def test_what_branches_share_and_what_not(self):
        row = ("times", 9, 0, 2)
        rows = (("less", 0, 0, 3), ("times", 1, 0, 2), ("give", 1), ("times", 2, 0, 2), ("give", 2))
        core = core_of(rows, ("whole",))
        self.assertEqual(self.assert_improved(core), (core, ()))
        for at in (1, 3):
            both = (("add", 8, 0, 0), ("less", 0, 8, 4)) + rows[1:]
            again = ("add", both[at + 1][1], 0, 0)
            both = both[:at + 1] + (again,) + both[at + 2:]
            _, log = self.assert_improved(core_of(both, ("whole",)))
            self.assertEqual(log, (("reuse", "f", at + 1, 0),))
        match = ("match", 1, (("Nil", (), 2), ("Cons", (2, 3), 3)))
        rows = (("less", 0, 0, 4), match, END, END, ("match", 1, (("Nil", (), 5), ("Cons", (4, 5), 6))), END, END)
        core = core_of(rows, ("whole", "Row"))
        self.assertEqual(self.assert_improved(core), (core, ()))
        rows = (("match", 1, (("Nil", (), 1), ("Cons", (2, 3), 3))), row, ("give", 9), ("make", 4, "Nil", ()),
                ("go", "f", (2, 4)))
        core = core_of(rows, ("whole", "Row"))
        self.assertEqual(self.assert_improved(core), (core, ()))
        rows = (("less", 0, 0, 3), ("make", 2, "Nil", ()), ("go", "f", (0, 2)), ("make", 3, "Nil", ()),
                ("go", "f", (0, 3)))
        core = core_of(rows, ("whole", "Row"))
        self.assertEqual(self.assert_improved(core), (core, ()))

    def test_made_cores(self):
        for seed in range(40):
            program = Maker(seed).program()
            if is_program(program) and sum(len(function[3]) for function in lowered(program)[1]) < 50:
                self.assert_improved(lowered(program))
                self.assert_improved(lowered(program), 3)

    def test_the_largest_cores(self):
        rows = tuple(("num", at + 1, 7) for at in range(238)) + (("make", 300, "Box", (238,)), ("give", 0))
        functions = tuple((f"f{at}", ("whole",), "whole", rows) for at in range(12))
        other, log = improve(((BOX,), functions), 400)
        self.assertEqual(len(log), 400)
        self.assertEqual(replayed(((BOX,), functions), log), other)


if __name__ == "__main__":
    unittest.main()
