"""[10], [11] and the interface's section juststeps/cores.py."""

import unittest

from juststeps import errors
from juststeps.cores import event_rows, is_core, way
from tests.helper import BOX, JOIN, JOIN_ROWS, ROW, STRANGE, Other, core_of, nested, part_at, places_of, with_part

GIVE = (("num", 0, 1), ("give", 0))


def numbers(many):
    """So many rows: nums and a give."""
    return tuple(("num", at, at) for at in range(many - 1)) + (("give", 0),)


class CoreCase(unittest.TestCase):
    def assert_core(self, right, rows, params=(), result="whole", more=()):
        core = core_of(rows, params, result, more=more)
        self.assertIs(is_core(core), right, core)


class IsCoreTest(CoreCase):
    def test_examples(self):
        self.assertIs(is_core(JOIN), True)
        self.assertIs(is_core(thing=((), ())), True)
        self.assert_core(True, GIVE)
        example = (("match", 0, (("Nil", (), 1), ("Cons", (2, 3), 2))), ("give", 1), ("add", 4, 1, 2),
                   ("go", "f", (3, 4)))
        self.assert_core(True, example, ("Row", "whole"))

    def test_any_object(self):
        for thing in STRANGE + (nested(80), ((), nested(78)), ((nested(20),), ())):
            self.assertIs(is_core(thing), False)

    def test_kinds_are_as_in_5(self):
        maker = ("A", ())
        for kinds, right in (
            ((), True), ((ROW, BOX), True), (tuple((name, ((name, ()),)) for name in "ABCDEFGH"), True),
            (tuple((name, ((name, ()),)) for name in "ABCDEFGHI"), False), ((("A", ()),), False), ([], False),
            ((("a", (maker,)),), False), ((("A", (("a", ()),)),), False), ((["A", (maker,)],), False),
            ((("A", (("A", ("whole",) * 5),)),), True), ((("A", (("A", ("whole",) * 6),)),), False),
            ((("A", tuple((name, ()) for name in "ABCDEFGH")),), True),
            ((("A", tuple((name, ()) for name in "ABCDEFGHI")),), False),
        ):
            self.assertIs(is_core((kinds, ())), right, kinds)

    def test_kinds_are_not_wrong_by_8(self):
        maker = ("A", ())
        for kinds, right in (
            ((("A", (maker,)), ("A", (("B", ()),))), False), ((("A", (maker, maker)),), False),
            ((("A", (maker,)), ("B", (maker,))), False), ((("A", (("A", ("B",)),)),), False),
            ((("A", (("A", ("B",)),)), ("B", (("B", ()),))), True),
        ):
            self.assertIs(is_core((kinds, ())), right, kinds)

    def test_heads(self):
        def core(*functions):
            return ((ROW,), functions)

        good = ("f", ("whole",) * 6, "whole", (("give", 0),))
        self.assertTrue(is_core(core(good)))
        end = (("num", 9, 1), ("give", 9))
        for head in (("F", (), "whole"), ("whole", (), "whole"), (7, (), "whole"), ("f", ("whole",) * 7, "whole"),
                     ("f", ["whole"], "whole"), ("f", ("Nil",), "whole"), ("f", ("Box",), "whole"), ("f", (), "Cons"),
                     ("f", (), "Other"), ("f", (), None), ("f", (None,), "whole"), ("f", (Other(),), "whole"), ("f", (), Other()), ("f", "whole", "whole"),
                     ("f", ("whole",))):
            self.assertFalse(is_core(core(head + (end,))), head)
            self.assertFalse(is_core(core(list(head + (end,)))), head)
        self.assertTrue(is_core(core(("f", ("Row",), "whole", end))))
        self.assertFalse(is_core(core(["f", ("Row",), "whole", end])))
        self.assertFalse(is_core(core(("f", ("Row",), "whole"))))
        self.assertFalse(is_core(core(good + (1,))))

    def test_functions(self):
        for many, right in ((12, True), (13, False)):
            functions = tuple((f"f{at}", (), "whole", GIVE) for at in range(many))
            self.assertIs(is_core(((), functions)), right)
        self.assertFalse(is_core(((), (("f", (), "whole", GIVE), ("f", (), "whole", GIVE)))))
        self.assertFalse(is_core(((), [("f", (), "whole", GIVE)])))

    def test_counts_of_rows(self):
        for many, right in ((1, False), (2, True), (240, True), (241, False)):
            rows = numbers(many) if many > 1 else ()
            self.assert_core(right, rows)
        self.assert_core(True, (("give", 0),), ("whole",))
        self.assertFalse(is_core(((), (("f", (), "whole", list(GIVE)),))))

    def test_variables(self):
        for variable, right in ((399, True), (400, False), (0, True), (-1, False), (True, False), ("x", False)):
            self.assert_core(right, (("num", variable, 1), ("give", variable)))
        self.assert_core(False, (("num", 1, 1), ("give", True)))
        self.assert_core(False, (("num", 0, 1), ("give", False)))
        self.assert_core(False, (("num", 0, 1), ("give", None)))
        self.assert_core(False, (("num", 0, 1), ("give", [])))

    def test_each_part_at_each_place_is_looked_at(self):
        rows = (("num", 2, 7), ("sub", 3, 2, 0), ("times", 4, 3, -5), ("make", 5, "Cons", (4, 1)),
                ("call", 6, "f", (4, 5)), ("less", 0, 6, 7), ("go", "f", (0, 1)),
                ("match", 1, (("Nil", (), 8), ("Cons", (7, 8), 9))), ("give", 2), ("add", 9, 7, 7), ("give", 9))
        core = core_of(rows, ("whole", "Row"), kinds=(ROW,))
        self.assertTrue(is_core(core))
        for place in places_of(core):
            part = part_at(core, place)
            others = [None, [], 10 ** 13, True, "", "no name", (None,), {}, -1, 400, Other()]
            if isinstance(part, tuple):
                others += [list(part), part + (None,), part[:-1] if part else None]
            for other in others:
                # The number of a num and the factor of a times may be others.
                if other in (-1, 400) and part in (7, -5) and place[-1] > 1 and not isinstance(other, Other):
                    continue
                if isinstance(other, tuple) and other == () and place in ((1,), (0, 0, 1, 0, 1), (1, 0, 3, 7, 2, 0, 1)):
                    continue
                self.assertIs(is_core(with_part(core, place, other)), False, (place, other))

    def test_numbers(self):
        for number, right in ((10 ** 12, True), (10 ** 12 + 1, False), (-10 ** 12, True), (-10 ** 12 - 1, False),
                              (True, False)):
            self.assert_core(right, (("num", 0, number), ("give", 0)))
        for number, right in ((10 ** 6, True), (10 ** 6 + 1, False), (-10 ** 6, True), (-10 ** 6 - 1, False),
                              (True, False)):
            self.assert_core(right, (("times", 1, 0, number), ("give", 1)), ("whole",))

    def test_kinds_of_variables(self):
        params = ("whole", "Row", "Box")
        for row, right in (
            (("add", 3, 0, 0), True), (("add", 3, 0, 1), False), (("add", 3, 1, 0), False), (("sub", 3, 0, 2), False),
            (("sub", 3, 2, 0), False), (("times", 3, 0, 2), True), (("times", 3, 1, 2), False),
            (("make", 3, "Cons", (0, 1)), True), (("make", 3, "Cons", (1, 0)), False),
            (("make", 3, "Cons", (0, 2)), False), (("make", 3, "Cons", (0,)), False), (("make", 3, "Nil", ()), True),
            (("make", 3, "Nil", (0,)), False), (("make", 3, "Row", ()), False), (("make", 3, "f", ()), False),
            (("call", 3, "f", (0, 1, 2)), True), (("call", 3, "f", (0, 1, 1)), False),
            (("call", 3, "f", (0, 1)), False), (("call", 3, "g", (0, 1, 2)), False),
            (("call", 3, "Box", (0,)), False), (("take", 3, 0), False), (("Num", 3, 0), False),
        ):
            self.assert_core(right, (row, ("give", 0)), params)

    def test_what_rows_bind_has_its_kind(self):
        give_row = (("g", (), "Row", (("make", 0, "Nil", ()), ("give", 0))),)
        for row, whole in ((("num", 3, 1), True), (("sub", 3, 0, 0), True), (("times", 3, 0, 1), True),
                           (("call", 3, "f", (0, 1)), True), (("make", 3, "Nil", ()), False),
                           (("call", 3, "g", ()), False)):
            self.assert_core(whole, (row, ("give", 3)), ("whole", "Row"), more=give_row)
            rows = (row, ("make", 4, "Cons", (0, 3)), ("give", 0))
            self.assert_core(not whole, rows, ("whole", "Row"), more=give_row)

    def test_ends(self):
        other = (("g", ("whole",), "Row", (("make", 1, "Nil", ()), ("give", 1))),)
        self.assert_core(True, (("give", 0),), ("whole",))
        self.assert_core(False, (("give", 0),), ("Row",))
        self.assert_core(True, (("go", "f", (0,)),), ("whole",), more=other)
        self.assert_core(False, (("go", "g", (0,)),), ("whole",), more=other)
        self.assert_core(True, (("go", "g", (0,)),), ("whole",), "Row", more=other)
        self.assert_core(False, (("go", "g", ()),), ("whole",), "Row", more=other)
        self.assert_core(False, (("go", "h", (0,)),), ("whole",), more=other)
        self.assert_core(False, (("go", "f", (1,)),), ("whole",))

    def test_less(self):
        end = ("give", 0)
        self.assert_core(True, (("less", 0, 0, 2), end, end), ("whole",))
        for start in (0, 1, 3, 4, -1, True, "2", None):
            self.assert_core(False, (("less", 0, 0, start), end, end), ("whole",))
        for wrong in (("less", 0, 1, 2), ("less", 1, 0, 2), ("less", 0, 0), ("less", 0, 0, 2, 2), ("less", 0, 0, 9),
                      ("less", 0, 0, Other())):
            for ends in ((), (end,), (end, end)):
                self.assert_core(False, (wrong,) + ends, ("whole", "Row"))
        self.assert_core(True, (("less", 0, 0, 4), ("less", 0, 0, 3), end, end, end), ("whole",))
        self.assert_core(False, (("less", 0, 0, 3), ("less", 0, 0, 3), end, end, end), ("whole",))
        self.assert_core(False, (("less", 0, 0, 3), ("less", 0, 0, 4), end, end, end), ("whole",))
        self.assert_core(False, (("less", 0, 0, 2), end, ("num", 1, 1), ("num", 2, 1)), ("whole",))

    def test_layout(self):
        end, number = ("give", 0), ("num", 1, 1)
        self.assert_core(False, (end, end), ("whole",))
        self.assert_core(False, (("go", "f", (0,)), end), ("whole",))
        self.assert_core(False, (("less", 0, 0, 3), ("go", "f", (0,)), end, end), ("whole",))
        self.assert_core(False, (number,), ("whole",))
        self.assert_core(False, (end, number), ("whole",))
        self.assert_core(False, (("call", 1, "f", (0,)),), ("whole",))
        # A branch that would run on into the next one, and rows between that nothing goes on to.
        self.assert_core(False, (("less", 0, 0, 2), number, end), ("whole",))
        self.assert_core(True, (("less", 0, 0, 3), number, end, end), ("whole",))
        self.assert_core(False, (("less", 0, 0, 3), end, end, end), ("whole",))
        self.assert_core(False, (("less", 0, 0, 2), end, end, end), ("whole",))

    def test_match(self):
        end = ("give", 0)
        nil, cons = ("Nil", (), 1), ("Cons", (2, 3), 2)

        def rows(*branches):
            return (("match", 1, branches), end, end)

        self.assert_core(True, rows(nil, cons), ("whole", "Row"))
        for branches in ((nil,), (cons,), (cons, nil), (nil, nil), (nil, cons, cons), (), (nil, ("Cons", (2,), 2)),
                         (nil, ("Cons", (2, 3, 4), 2)), (("Nil", (2,), 1), cons), (nil, ("Box", (2, 3), 2)),
                         (nil, ("Cons", [2, 3], 2)), (nil, ["Cons", (2, 3), 2]), (nil, ("Cons", (2, 2), 2)),
                         (nil, ("Cons", (0, 3), 2)), (nil, ("Cons", (2, 400), 2)), (nil, ("Cons", (2, True), 2)),
                         (nil, ("Cons", (2, 3), 1)), (nil, ("Cons", (2, 3), 3)), (("Nil", (), 2), ("Cons", (2, 3), 1)),
                         (("Nil", (), True), cons), (("Nil", (), 0), cons), (nil, ("Cons", (2, 3)))):
            for many in (1, 2, 3):
                self.assert_core(False, rows(*branches)[:many], ("whole", "Row"))
        for wrong in (("match", 0, (nil, cons)), ("match", 9, (nil, cons)), ("match", 1, [nil, cons]), ("match", 1),
                      ("match", 1, (nil, cons), 2), ("match", 1, (nil, ("Cons", (2, 3), Other()))),
                      ("match", 1, ((Other(), (), 1), cons)), ("match", 1, (("Nil", (), Other()), cons))):
            for ends in ((), (end,), (end, end)):
                self.assert_core(False, (wrong,) + ends, ("whole", "Row"))
        self.assert_core(True, (("match", 1, (("Box", (2,), 1),)), ("give", 2)), ("whole", "Box"))
        self.assert_core(False, (("match", 1, (("Box", (2,), 2),)), end, end), ("whole", "Box"))
        self.assert_core(False, (("match", 1, (("Box", (2,), 1),)), end, end), ("whole", "Box"))

    def test_kinds_of_a_branch_are_those_of_the_fields(self):
        def rows(first):
            return (("match", 0, (("Nil", (), 1), ("Cons", (1, 2), 3))), ("num", 3, 1), ("give", 3), ("give", first))

        self.assert_core(True, rows(1), ("Row",))
        self.assert_core(False, rows(2), ("Row",))

    def test_variables_are_bound_once_in_a_function(self):
        end = ("give", 0)
        self.assert_core(False, (("num", 0, 1), end), ("whole",))
        self.assert_core(False, (("num", 1, 1), ("num", 1, 1), end), ("whole",))
        two = (("less", 0, 0, 3), ("num", 1, 1), end, ("num", 2, 1), end)
        self.assert_core(True, two, ("whole",))
        self.assert_core(False, two[:3] + (("num", 1, 1), end), ("whole",))
        match = (("match", 0, (("Nil", (), 1), ("Cons", (2, 3), 3))), ("num", 1, 1), ("give", 1), ("give", 2))
        self.assert_core(True, match, ("Row",))
        self.assert_core(False, match[:1] + (("num", 2, 1), ("give", 2), ("give", 2)), ("Row",))
        self.assert_core(False, match[:3] + (("num", 1, 1), ("give", 1)), ("Row",))
        self.assert_core(False, match[:3] + (("num", 3, 1), ("give", 3)), ("Row",))

    def test_variables_are_used_where_they_are_in_reach(self):
        end = ("give", 0)
        self.assert_core(False, (("give", 1),), ("whole",))
        self.assert_core(False, (("add", 1, 1, 0), end), ("whole",))
        self.assert_core(False, (("call", 1, "f", (1,)), end), ("whole",))
        self.assert_core(False, (("add", 1, 2, 0), ("num", 2, 1), end), ("whole",))
        self.assert_core(False, (("less", 0, 0, 3), ("num", 1, 1), end, ("give", 1)), ("whole",))
        self.assert_core(True, (("num", 1, 1), ("less", 0, 1, 3), ("give", 1), ("give", 1)), ("whole",))
        match = ("match", 0, (("Nil", (), 1), ("Cons", (1, 2), 3)))
        self.assert_core(False, (match, ("num", 3, 1), ("give", 1), ("give", 1)), ("Row",))
        two = ("match", 0, (("Nil", (), 1), ("Cons", (1, 2), 2)))
        inner = ("match", 2, (("Nil", (), 3), ("Cons", (4, 5), 4)))
        self.assert_core(False, (two, ("go", "f", (0,)), inner, ("give", 4), ("give", 1)), ("Row",))
        self.assert_core(True, (two, ("go", "f", (0,)), inner, ("give", 1), ("give", 4)), ("Row",))

    def test_a_branch_goes_back_to_what_is_known_at_its_beginning(self):
        # Behind two branches that bind much, the third one has only what stands ahead of all.
        rows = (("less", 0, 0, 5), ("less", 0, 0, 4), ("num", 1, 1), ("give", 1), ("give", 0), ("give", 0))
        self.assert_core(True, rows, ("whole",))
        for at in (4, 5):
            self.assert_core(False, rows[:at] + (("give", 1),) + rows[at + 1:], ("whole",))


class WayTest(unittest.TestCase):
    DEEP = core_of((("less", 0, 0, 6), ("num", 2, 1), ("match", 1, (("Nil", (), 3), ("Cons", (3, 4), 4))),
                    ("give", 2), ("call", 5, "f", (3, 4)), ("give", 5), ("less", 0, 0, 9), ("num", 6, 1), ("give", 6),
                    ("go", "f", (0, 1))), ("whole", "Row"))

    def test_ways(self):
        wanted = ((0,), (0, 1), (0, 1, 2), (0, 1, 2, 3), (0, 1, 2, 4), (0, 1, 2, 4, 5), (0, 6), (0, 6, 7),
                  (0, 6, 7, 8), (0, 6, 9))
        for row, rows in enumerate(wanted):
            self.assertEqual(way(self.DEEP, "f", row), rows)
        self.assertEqual(way(core=JOIN, name="join", row=4), (0, 2, 3, 4))

    def test_event_rows(self):
        self.assertEqual(event_rows(self.DEEP, "f"), (0, 2, 3, 4, 5, 6, 8, 9))
        self.assertEqual(event_rows(core=JOIN, name="join"), (0, 1, 2, 4))
        self.assertEqual(event_rows(core_of(numbers(240)), "f"), (239,))

    def test_the_function_that_is_named(self):
        core = core_of(GIVE, more=(("g", ("Row", "Row"), "Row", JOIN_ROWS[:2] + (
            ("call", 4, "g", (3, 1)),) + JOIN_ROWS[3:]),))
        self.assertEqual(event_rows(core, "f"), (1,))
        self.assertEqual(event_rows(core, "g"), (0, 1, 2, 4))
        self.assertEqual(way(core, "g", 3), (0, 2, 3))

    def test_long_ways(self):
        self.assertEqual(way(core_of(numbers(240)), "f", 239), tuple(range(240)))

    def test_errors(self):
        for thing in STRANGE:
            with self.assertRaises(errors.BadCore):
                way(thing, "g", 99)
            with self.assertRaises(errors.BadCore):
                event_rows(thing, "g")
            with self.assertRaises(errors.BadName):
                way(JOIN, thing, 99)
            with self.assertRaises(errors.BadName):
                event_rows(JOIN, thing)
        for row in (5, -1, True, False, "0", None, (), [0], 10 ** 30):
            with self.assertRaises(errors.BadRow):
                way(JOIN, "join", row)


if __name__ == "__main__":
    unittest.main()
