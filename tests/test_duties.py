"""[2], [42] to [46], the duties of [48] and the interface's section juststeps/duties.py."""

import time
import unittest

from juststeps import errors
from juststeps.books import is_book
from juststeps.codejudge import judge_code
from juststeps.cores import is_core
from juststeps.duties import duties
from juststeps.lowering import lowered
from juststeps.plain import run_priced
from juststeps.plaincode import plain_code
from juststeps.programs import is_program
from juststeps.rewrites import improve, rewritten
from tests.bookish import Drawer, Idle, Row, Watched, claim_of, measure_of, read_duties, told_of, values_of
from tests.helper import BOX, JOIN, JOIN_PRICES, ROW, STRANGE, all_steps, core_of, words_of
from tests.test_books import BOOK
from tests.test_measures import LENGTH, PAIRS

PLAIN = ("num", "add", "sub", "times", "make")
TREE = ("Tree", (("Leaf", ()), ("Node", ("Tree", "whole", "Tree"))))
SIZE = ("Tree", ((1, ()), (1, ((0, 1, 1), (2, 1, 1)))))


def flat_prices(core, price=(1, 0, 0, 0)):
    return tuple(tuple(None if row[0] in PLAIN else price for row in function[3]) for function in core[1])


def book_of(core, measures=(), claims=(), needs=None, ranks=None, rooms=None):
    return measures, ((),) * len(core[1]) if needs is None else needs, tuple(claims), ranks, rooms


def value_claim(name="f", number=0):
    """Its least duty tells the form of the value that is given."""
    return (name, 0, 0, ((number, 1),), "least", (0, ()))


class DutyCase(unittest.TestCase):
    def assert_raises(self, error, call, *args, **named):
        with self.assertRaises(error) as caught:
            call(*args, **named)
        self.assertIs(type(caught.exception), error)

    def duties_of(self, core, measures=(), claims=(), prices=None, **parts):
        self.assertTrue(is_core(core))
        book = book_of(core, measures, claims, **parts)
        prices = flat_prices(core) if prices is None else prices
        found = duties(core, prices, book)
        self.assertEqual(found, read_duties(core, prices, book))
        return found

    def given_form(self, rows, params=(), result="whole", measures=(), number=0, kinds=(ROW, BOX)):
        """The form of the value that the one give which is not idle gives."""
        found = self.duties_of(core_of(rows, params, result, kinds), measures, (value_claim(number=number),))
        self.assertEqual(len(found), 1)
        return found[0][3]


class ExampleTest(DutyCase):
    def test_the_fifteen_duties(self):
        found = duties(core=JOIN, prices=JOIN_PRICES, book=BOOK)
        self.assertEqual([duty[:3] for duty in found], [("join", row, word) for row, word in (
            (-1, "rank"), (0, "top"), (1, "top"), (1, "most"), (1, "least"), (1, "most"), (1, "least"), (2, "rank"),
            (2, "top"), (2, "held"), (4, "top"), (4, "most"), (4, "least"), (4, "most"), (4, "least"))])
        self.assertEqual(found[7][3], (0, ()))
        self.assertEqual(found[8][3], (0, (((0, 3, 1), 2),)))
        self.assertEqual(found[11][3], (4, (((0, 3, 1), 16), ((1, 2, 0), -1))))
        for duty in found[10:]:
            self.assertEqual(duty[4], (
                ((-4, (((0, 3, 1), -16), ((1, 2, 0), 1))), True, (2, 0)),
                ((0, (((0, 1, 1), -1), ((0, 3, 1), -1), ((0, 4, 1), 1))), True, (2, 1)),
            ))
        for duty in found[:10]:
            self.assertEqual(duty[4], ())
        self.assertEqual(found[0][3], (0, (((0, 0, 1), 1),)))
        self.assertEqual(found, read_duties(JOIN, JOIN_PRICES, BOOK))


class ExpansionTest(DutyCase):
    def test_integers(self):
        rows = (("num", 1, 5), ("add", 2, 0, 1), ("times", 3, 2, -3), ("sub", 4, 0, 3), ("give", 4))
        self.assertEqual(self.given_form(rows, ("whole",)), (15, (((0, 0, 0), 4),)))
        self.assertEqual(self.given_form((("sub", 1, 0, 0), ("give", 1)), ("whole",)), (0, ()))
        self.assertEqual(self.given_form((("times", 1, 0, 0), ("give", 1)), ("whole",)), (0, ()))
        self.assertEqual(self.given_form((("call", 1, "f", (0,)), ("add", 2, 1, 0), ("give", 2)), ("whole",)),
                         (0, (((0, 0, 0), 1), ((0, 1, 0), 1))))

    def test_made_values(self):
        rows = (("num", 2, 7), ("make", 3, "Cons", (2, 0)), ("make", 4, "Cons", (1, 3)), ("give", 4))
        total = ("Row", ((0, ()), (0, ((0, 0, 1), (1, 2, 1)))))
        for number, told in ((1, (2, (((0, 0, 1), 1),))), (2, (7, (((0, 0, 2), 1), ((0, 1, 0), 1))))):
            self.assertEqual(self.given_form(rows, ("Row", "whole"), "Row", (LENGTH, total), number), told)

    def test_matched_values(self):
        # What is given is the param: it is known by the match, and its tail by the second one.
        rows = (("match", 0, (("Nil", (), 1), ("Cons", (1, 2), 2))), ("give", 0),
                ("match", 2, (("Nil", (), 3), ("Cons", (3, 4), 4))), ("give", 0), ("give", 0))
        found = self.duties_of(core_of(rows, ("Row",), "Row"), (LENGTH, PAIRS), (value_claim(number=1), value_claim(number=2)))
        self.assertEqual([duty[3] for duty in found], [
            (0, ()), (0, ()), (1, ()), (0, ()), (2, (((0, 4, 1), 1),)), (1, (((0, 4, 1), 2), ((0, 4, 2), 1)))])

    def test_roots_of_what_is_matched_twice(self):
        # The second match's vars have the first one's as roots; the branch of Nil is idle.
        rows = (("match", 0, (("Nil", (), 1), ("Cons", (1, 2), 2))), ("give", 0),
                ("match", 0, (("Nil", (), 3), ("Cons", (3, 4), 5))), ("num", 5, 0), ("give", 0), ("give", 4))
        found = self.duties_of(core_of(rows, ("Row",), "Row"), (LENGTH,), (value_claim(number=1),))
        self.assertEqual([duty[1:4:2] for duty in found], [(1, (0, ())), (5, (0, (((0, 2, 1), 1),)))])

    def test_a_made_value_that_is_matched(self):
        rows = (("make", 2, "Cons", (0, 1)), ("match", 2, (("Nil", (), 2), ("Cons", (3, 4), 3))), ("give", 0),
                ("add", 5, 3, 0), ("give", 5))
        self.assertEqual(self.given_form(rows, ("whole", "Row")), (0, (((0, 0, 0), 2),)))
        rows = rows[:2] + (("give", 1), ("match", 4, (("Nil", (), 4), ("Cons", (5, 6), 5))), ("give", 1), ("give", 2))
        found = self.duties_of(core_of(rows, ("whole", "Row"), "Row"), (LENGTH,), (value_claim(number=1),))
        self.assertEqual([duty[3] for duty in found], [(0, ()), (2, (((0, 6, 1), 1),))])

    def test_that_a_kind_has_one_maker_makes_nothing_known(self):
        worth = ("Box", ((3, ((0, 0, 1),)),))
        self.assertEqual(self.given_form((("give", 0),), ("Box",), "Box", (worth,), 1), (0, (((0, 0, 1), 1),)))
        rows = (("match", 0, (("Box", (1,), 1),)), ("give", 0))
        self.assertEqual(self.given_form(rows, ("Box",), "Box", (worth,), 1), (3, (((0, 1, 0), 1),)))

    def test_what_a_row_itself_does_is_not_known_at_it(self):
        rows = (("match", 0, (("Nil", (), 1), ("Cons", (1, 2), 2))), ("give", 0), ("give", 0))
        found = self.duties_of(core_of(rows, ("Row",), "Row"), (LENGTH,), rooms=((0, ((0, 1, 1),)),))
        self.assertEqual([duty[3] for duty in found], [(0, (((0, 0, 1), 1),)), (0, ()), (1, (((0, 2, 1), 1),))])

    def test_the_value_of_a_go_has_nothing_known(self):
        rows = (("make", 2, "Cons", (0, 1)), ("go", "f", (0, 2)))
        self.assertEqual(self.given_form(rows, ("whole", "Row"), "Row", (LENGTH,), 1), (0, (((0, -1, 1), 1),)))
        self.assertEqual(self.given_form((("num", 0, 3), ("go", "f", ()))), (0, (((0, -1, 0), 1),)))

    def test_expansions_that_double(self):
        begun = time.monotonic()
        rows = tuple(("add", at + 1, at, at) for at in range(239)) + (("give", 239),)
        self.assertEqual(duties(core_of(rows, ("whole",)), flat_prices(core_of(rows, ("whole",))),
                                book_of(core_of(rows), (), (value_claim(),)))[0][3], (0, (((0, 0, 0), 2 ** 239),)))
        rows, last = [("num", 2, 1)], 0
        for at in range(3, 241):
            rows.append(("make", at, "Node", (last, 2, last)))
            last = at
        rows.append(("give", last))
        core = core_of(rows, ("Tree", "whole"), "Tree", (TREE,))
        # Twelve measures, each of them made up of all twelve of both sides.
        every = tuple((field, number, 1) for field in (0, 2) for number in range(1, 13))
        measures = tuple(("Tree", ((0, ()), (1, every))) for _ in range(12))
        found = duties(core, flat_prices(core), book_of(core, (SIZE,), (value_claim(number=1),)))
        self.assertEqual(found[0][3], (2 ** 238 - 1, (((0, 0, 1), 2 ** 238),)))
        found = duties(core, flat_prices(core), book_of(core, measures, [value_claim(number=at) for at in range(1, 13)] * 2))
        self.assertEqual(found[3][3], (sum(24 ** at for at in range(238)),
                                       tuple(((0, 0, number), 2 * 24 ** 237) for number in range(1, 13))))
        self.assertLess(time.monotonic() - begun, 30)

    def test_sums_and_makes_with_matches_between(self):
        # Each make is matched at once, and the next one is made of its fields, which have roots.
        begun = time.monotonic()
        rows, left, right, fresh = [], 0, 0, 1
        rows.append(("num", fresh, 1))
        number, fresh = fresh, fresh + 1
        while len(rows) < 232:
            at = len(rows)
            rows.append(("add", fresh, number, number))
            rows.append(("make", fresh + 1, "Node", (left, fresh, right)))
            rows.append(("match", fresh + 1, (("Leaf", (), at + 3), ("Node", (fresh + 2, fresh + 3, fresh + 4), at + 4))))
            rows.append(("give", left))
            left, right, number, fresh = fresh + 1, fresh + 4, fresh + 3, fresh + 5
        rows.append(("give", left))
        core = core_of(rows, ("Tree",), "Tree", (TREE,))
        self.assertTrue(is_core(core))
        book = book_of(core, (SIZE, ("Tree", ((0, ()), (0, ((0, 2, 1), (1, 0, 1), (2, 2, 1)))))), (value_claim(number=2),))
        found = duties(core, flat_prices(core), book)
        many = (len(rows) - 2) // 4
        self.assertEqual([duty[1] for duty in found], [len(rows) - 1])
        self.assertEqual(found[0][3], (2 ** (many + 1) - 2, (((0, 0, 2), many + 1),)))
        self.assertLess(time.monotonic() - begun, 30)


class IdleTest(DutyCase):
    def rows_with_duties(self, rows, params=(), result="whole", kinds=(ROW, BOX)):
        core = core_of(rows, params, result, kinds)
        return [duty[1] for duty in self.duties_of(core, rooms=((0, ()),) * len(core[1]))]

    def test_branches_of_other_makers(self):
        rows = (("make", 0, "Nil", ()), ("match", 0, (("Nil", (), 2), ("Cons", (1, 2), 3))), ("give", 0),
                ("less", 1, 1, 5), ("give", 0), ("give", 2))
        self.assertEqual(self.rows_with_duties(rows, (), "Row"), [1, 2])
        # The match itself is not idle, and what it makes known makes the other branch of the next one idle.
        rows = (("match", 0, (("Nil", (), 1), ("Cons", (1, 2), 4))), ("match", 0, (("Nil", (), 2), ("Cons", (3, 4), 3))),
                ("give", 0), ("give", 4), ("give", 2))
        self.assertEqual(self.rows_with_duties(rows, ("Row",), "Row"), [0, 1, 2, 4])

    def test_a_less_whose_sides_differ_by_a_number_alone(self):
        for more, way in ((("num", 1, 1), 3), (("num", 1, 0), 4), (("num", 1, -1), 4)):
            rows = (more, ("add", 2, 0, 1), ("less", 0, 2, 4), ("give", 0), ("give", 2))
            self.assertEqual(self.rows_with_duties(rows, ("whole",)), [2, way])
        self.assertEqual(self.rows_with_duties((("less", 0, 0, 2), ("give", 0), ("give", 0)), ("whole",)), [0, 2])
        self.assertEqual(self.rows_with_duties((("less", 0, 1, 2), ("give", 0), ("give", 0)), ("whole", "whole")), [0, 1, 2])
        # One that is decided by what a less ahead says is not idle.
        rows = (("less", 0, 1, 4), ("less", 0, 1, 3), ("give", 0), ("give", 0), ("give", 0))
        self.assertEqual(self.rows_with_duties(rows, ("whole", "whole")), [0, 1, 2, 3, 4])

    def test_all_rows_behind_an_idle_way_are_idle(self):
        rows = (("num", 1, 0), ("less", 1, 1, 7), ("call", 2, "f", (0,)), ("less", 2, 0, 5), ("give", 0),
                ("call", 3, "f", (0,)), ("give", 3), ("give", 1))
        self.assertEqual(self.rows_with_duties(rows, ("whole",)), [1, 7])

    def test_a_less_of_fields_with_one_root(self):
        rows = (("make", 2, "Cons", (0, 1)), ("match", 2, (("Nil", (), 2), ("Cons", (3, 4), 3))), ("give", 0),
                ("less", 3, 0, 5), ("give", 0), ("give", 3))
        self.assertEqual(self.rows_with_duties(rows, ("whole", "Row")), [1, 3, 5])

    def test_rows_without_a_price(self):
        core = core_of((("less", 0, 0, 2), ("give", 0), ("give", 0)), ("whole",))
        for price in (None, (1, 2, 3, 4)):
            found = self.duties_of(core, (), (value_claim(),), (((0, 0, 0, 0), (1, 1, 1, 1), price),), rooms=((0, ()),))
            self.assertEqual([duty[1:3] for duty in found], [(0, "top")] + [(2, "top"), (2, "least")] * (price is not None))


class HintsTest(DutyCase):
    CALLED = ("g", ("Row", "whole"), "Row", (("give", 0),))

    def test_needs_lesses_and_calls_in_their_order(self):
        rows = (("less", 1, 2, 5), ("call", 3, "g", (0, 1)), ("less", 2, 1, 4), ("give", 0), ("give", 3), ("give", 0))
        core = core_of(rows, ("Row", "whole", "whole"), "Row", more=(self.CALLED,))
        claims = (("g", 2, 3, ((1, -5),), "most", (7, ((0, 1, 2), (1, 0, 4)))), ("f", 1, 0, (), "most", (0, ())),
                  ("g", 0, 1, (), "least", (1, ())), ("g", 0, 0, ((1, 1),), "just", (0, ((0, 1, 1),))))
        needs = (((-2, ((1, 0, 1),)), (0, ((0, 1, 1), (2, 0, 1)))), ())
        found = self.duties_of(core, (LENGTH,), claims, needs=needs)
        by_row = {duty[1]: duty[4] for duty in found if duty[0] == "f"}
        ahead = (((-2, (((0, 1, 0), 1),)), False, None), ((0, (((0, 0, 1), 1), ((0, 2, 0), 1))), False, None))
        first = ((-1, (((0, 1, 0), -1), ((0, 2, 0), 1))), False, None)
        calls = (
            ((7, (((0, 0, 1), 2), ((0, 1, 0), 4), ((0, 3, 1), 5), ((1, 1, 0), -2), ((1, 1, 1), -3))), False, (1, 0)),
            ((-1, (((1, 1, 1), 1),)), False, (1, 2)),
            ((0, (((0, 0, 1), -1), ((0, 3, 1), 1))), True, (1, 3)),
        )
        self.assertEqual(by_row[5], ahead + (((0, (((0, 1, 0), 1), ((0, 2, 0), -1))), False, None),))
        self.assertEqual(by_row[3], ahead + (first,) + calls + (((-1, (((0, 1, 0), 1), ((0, 2, 0), -1))), False, None),))
        self.assertEqual(by_row[4], ahead + (first,) + calls + (((0, (((0, 1, 0), -1), ((0, 2, 0), 1))), False, None),))

    def test_hints_are_expanded_as_at_the_row_that_is_read(self):
        # The call's value and its argument become known behind it.
        rows = (("call", 1, "f", (0,)), ("match", 1, (("Nil", (), 2), ("Cons", (2, 3), 3))), ("give", 0),
                ("match", 0, (("Nil", (), 4), ("Cons", (4, 5), 5))), ("give", 0), ("give", 0))
        claim = ("f", 0, 0, ((1, 1),), "just", (0, ((0, 1, 1),)))
        found = self.duties_of(core_of(rows, ("Row",), "Row"), (LENGTH,), (claim,), rooms=((0, ()),))
        forms = {duty[1]: duty[4][0][0] for duty in found if duty[4]}
        self.assertEqual(forms, {
            1: (0, (((0, 0, 1), -1), ((0, 1, 1), 1))), 2: (0, (((0, 0, 1), -1),)), 3: (1, (((0, 0, 1), -1), ((0, 3, 1), 1))),
            4: (1, (((0, 3, 1), 1),)), 5: (0, (((0, 3, 1), 1), ((0, 5, 1), -1)))})

    def test_hints_without_terms_stand_too(self):
        rows = (("num", 0, 1), ("num", 1, 5), ("less", 0, 1, 4), ("give", 0), ("give", 1))
        found = self.duties_of(core_of(rows), (), (value_claim(),), needs=(((7, ()), (-7, ())),))
        self.assertEqual([duty[1] for duty in found], [3])
        self.assertEqual(found[0][4], (((7, ()), False, None), ((-7, ()), False, None), ((3, ()), False, None)))

    def test_a_go_has_hints_of_the_function_that_it_names(self):
        rows = (("call", 2, "g", (0, 1)), ("go", "g", (2, 1)))
        core = core_of(rows, ("Row", "whole"), "Row", more=(self.CALLED,))
        claims = (("g", 1, 1, ((1, 1),), "just", (3, ((0, 1, 1),))), ("f", 1, 2, ((1, 4),), "just", (0, ())))
        found = self.duties_of(core, (LENGTH,), claims, ranks=((0, (0, ())),) * 2, rooms=((9, ()),) * 2)
        called = (((-3, (((0, 0, 1), -1), ((0, 2, 1), 1), ((1, 0, 0), 1), ((1, 0, 1), 1))), True, (0, 0)),)
        gone = (((-3, (((0, -1, 1), 1), ((0, 2, 1), -1), ((1, 1, 0), 1), ((1, 1, 1), 1))), True, (1, 0)),)
        told = [duty for duty in found if duty[:2] == ("f", 1)]
        self.assertEqual([duty[2] for duty in told], ["rank", "top", "held", "most", "least"])
        for duty in told:
            self.assertEqual(duty[4], called + gone if duty[2] in ("most", "least") else called)
        self.assertEqual(told[4][3], (2, (((0, -1, 1), 4), ((1, 0, 0), 1), ((1, 0, 1), 2), ((1, 1, 0), 1), ((1, 1, 1), 2))))

    def test_the_rank_of_a_beginning_has_the_needs_alone(self):
        rows = (("match", 0, (("Nil", (), 1), ("Cons", (1, 2), 2))), ("give", 0), ("give", 2))
        found = self.duties_of(core_of(rows, ("Row",), "Row"), (LENGTH,), needs=(((1, ((0, 1, 3),)),),),
                               ranks=((4, (5, ((0, 1, -1),))),))
        self.assertEqual(found, (("f", -1, "rank", (5, (((0, 0, 1), -1),)), (((1, (((0, 0, 1), 3),)), False, None),)),))


class GoalsTest(DutyCase):
    def test_sums_take_all_rows_of_the_way(self):
        rows = (("less", 0, 0, 2), ("give", 0), ("call", 1, "f", (0,)), ("num", 2, 1), ("call", 3, "f", (2,)), ("give", 0))
        prices = (((1, 10, 7, 7), (2, 20, 7, 7), (4, 40, 7, 7), None, None, (8, 80, 7, 7)),)
        found = self.duties_of(core_of(rows, ("whole",)), (), (("f", 1, 0, (), "least", (0, ())), ("f", 0, 3, (), "most", (0, ()))), prices)
        self.assertEqual([duty[1:4] for duty in found], [
            (5, "least", (13, (((1, 2, 0), 1), ((1, 4, 0), 1)))), (5, "most", (-390, (((1, 2, 1), -3), ((1, 4, 1), -3))))])

    def test_a_way_that_ends_with_a_go(self):
        found = self.duties_of(core_of((("go", "f", ()),)), (), (("f", 2, 5, ((0, 3),), "just", (100, ())),), (((7, 9, 0, 0),),))
        told = (-41, (((0, -1, 0), 3), ((1, 0, 0), 2), ((1, 0, 1), 5)))
        self.assertEqual([duty[2:4] for duty in found], [
            ("most", (41, tuple((atom, -times) for atom, times in told[1]))), ("least", told)])

    def test_ranks_with_levels(self):
        rows = (("call", 1, "g", (0,)), ("go", "f", (1,)))
        core = core_of(rows, ("whole",), more=(("g", ("whole",), "whole", (("give", 0),)),))
        form, other = (4, ((0, 0, 2),)), (1, ((0, 0, 5),))
        for level, found in ((0, None), (6, None), (7, (2, (((0, 0, 0), -3),))), (8, (-1, ())), (100, (-1, ()))):
            told = self.duties_of(core, ranks=((7, form), (level, other)))
            self.assertEqual([duty[:4] for duty in told], [("f", -1, "rank", (4, (((0, 0, 0), 2),)))]
                             + [("f", 0, "rank", found)] * (found is not None)
                             + [("f", 1, "rank", (-1, (((0, 0, 0), 2), ((0, 1, 0), -2))))]
                             + [("g", -1, "rank", (1, (((0, 0, 0), 5),)))])

    def test_rooms_and_needs(self):
        rows = (("call", 1, "g", (0,)), ("go", "g", (1,)))
        core = core_of(rows, ("whole",), more=(("g", ("whole",), "whole", (("give", 0),)),))
        found = self.duties_of(core, prices=(((0, 0, 3, 4), (0, 0, 5, 6)), ((0, 0, 1, 2),)),
                               needs=((), ((0, ((0, 0, 1),)), (-1, ()))), rooms=((10, ((0, 0, 2),)), (20, ((0, 0, 7),))))
        self.assertEqual([duty[:4] for duty in found], [
            ("f", 0, "need", (0, (((0, 0, 0), 1),))), ("f", 0, "need", (-1, ())), ("f", 0, "top", (7, (((0, 0, 0), 2),))),
            ("f", 0, "held", (-14, (((0, 0, 0), -5),))),
            ("f", 1, "need", (0, (((0, 1, 0), 1),))), ("f", 1, "need", (-1, ())), ("f", 1, "top", (5, (((0, 0, 0), 2),))),
            ("f", 1, "held", (-16, (((0, 0, 0), 2), ((0, 1, 0), -7)))), ("g", 0, "top", (19, (((0, 0, 0), 7),)))])

    def test_claims_in_the_order_of_the_book(self):
        core = core_of((("give", 0),), ("whole",), more=(("g", (), "whole", (("num", 0, 3), ("give", 0))),))
        claims = (("f", 1, 0, (), "least", (0, ())), ("g", 1, 0, (), "just", (0, ())), ("f", 0, 0, ((0, 1),), "just", (0, ((0, 0, 1),))),
                  ("f", 1, 1, (), "most", (0, ())), ("f", 1, 0, (), "least", (0, ())))
        found = self.duties_of(core, (), claims, (((3, 5, 0, 0),), (None, (7, 0, 0, 0))))
        self.assertEqual([duty[:4] for duty in found], [
            ("f", 0, "least", (3, ())), ("f", 0, "most", (0, ())), ("f", 0, "least", (0, ())), ("f", 0, "most", (-8, ())),
            ("f", 0, "least", (3, ())), ("g", 1, "most", (-7, ())), ("g", 1, "least", (7, ()))])

    def test_no_duties(self):
        self.assertEqual(duties(((), ()), (), ((), (), (), (), ())), ())
        self.assertEqual(self.duties_of(JOIN, (LENGTH,)), ())
        self.assertEqual(self.duties_of(core_of((("give", 0),), ("whole",)), claims=(), needs=(((1, ()),),)), ())


def made_cores(first, last, most=110):
    """Cores of drawn programs, some improved and some with opened rows."""
    for seed in range(first, last):
        drawer = Drawer(seed)
        program = drawer.maker.program()
        if is_program(program):
            core = lowered(program)
            if seed % 3 == 1:
                core, _ = improve(core, 400)
            if seed % 3 == 2:
                core = some_opened(drawer.random, core)
            if sum(len(function[3]) for function in core[1]) <= most:
                yield drawer, core


def some_opened(random, core):
    for _ in range(3):
        opens = list(all_steps(core, ("open",)))
        random.shuffle(opens)
        for step in opens[:8]:
            try:
                core = rewritten(core, step)
                break
            except errors.NotLet:
                pass
    return core


class SecondReadingTest(DutyCase):
    def test_drawn_books_of_made_cores(self):
        words = dict.fromkeys(("rank", "need", "top", "held", "most", "least"), 0)
        idle = 0
        for drawer, core in made_cores(0, 260):
            book, prices = drawer.book(core), drawer.prices(core)
            self.assertTrue(is_book(core, book))
            found = duties(core, prices, book)
            self.assertEqual(found, read_duties(core, prices, book))
            for duty in found:
                words[duty[2]] += 1
            for function in core[1]:
                for at in range(len(function[3])):
                    try:
                        Row(core, book[0], function, at)
                    except Idle:
                        idle += 1
        self.assertGreater(min(words.values()), 200, words)
        self.assertGreater(idle, 50)

    def test_the_sequence_does_not_hang_on_the_numbers(self):
        for drawer, core in made_cores(300, 360):
            book, prices = drawer.book(core), drawer.prices(core)
            measures, needs, claims, ranks, rooms = book
            empty = (measures, tuple(((0, ()),) * len(forms) for forms in needs),
                     tuple(claim[:3] + ((), claim[4], (0, ())) for claim in claims),
                     None if ranks is None else tuple((level, (0, ())) for level, _ in ranks),
                     None if rooms is None else ((0, ()),) * len(rooms))
            self.assertTrue(is_book(core, empty))
            self.assertEqual(*[[duty[:3] + (tuple(hint[1:] for hint in duty[4]),) for duty in duties(core, prices, each)]
                               for each in (book, empty)])


class RunsTest(DutyCase):
    """[46]: what hints and goals say in runs that are cut or ended."""

    def test_runs_of_made_cores(self):
        self.ended = {"just": 0, "most": 0, "least": 0, "go": 0}
        self.goals = dict.fromkeys(("rank", "need", "top", "held", "most", "least"), 0)
        self.cut = 0
        for drawer, core in made_cores(400, 640):
            drawer.most = 6
            prices = judge_code(core, plain_code(core))[1] if drawer.random.random() < 0.5 else drawer.prices(core)
            book = drawer.book(core, drawer.measures(core[0], 3), 6)
            for name, params, _, _ in core[1]:
                args = tuple(drawer.maker.value(kind) for kind in params)
                self.watch(core, prices, book, name, args, drawer.random.choice((7, 40, 300)))
        self.assertGreater(min(self.ended.values()), 100, self.ended)
        self.assertGreater(min(self.goals.values()), 200, self.goals)
        self.assertGreater(self.cut, 20)

    def watch(self, core, prices, book, name, args, limit):
        found = {}
        for duty in duties(core, prices, book):
            found.setdefault(duty[:2], []).append(duty)
        names = [function[0] for function in core[1]]
        watched = Watched(core, prices, limit, None)

        def look(here, at, ended):
            # Duties of claims are looked at when the give or go has ended, all others when the row is passed.
            rows = (-1, at) if at == 0 and not ended else (at,)
            for row in rows:
                for duty in found.get((names[here.place], row), []):
                    if ended == (duty[2] in ("most", "least")):
                        self.look_at(watched, book, here, at, duty)

        watched.look = look
        call = watched.run(name, values_of(args))
        if call is None:
            self.cut += 1
        else:
            self.assertEqual(run_priced(core, prices, name, args, 20000)[:4], ("ended", words_of(call.value), call.steps, call.words))

    def look_at(self, watched, book, here, at, duty):
        core, measures, claims = watched.core, book[0], list(book[2])
        needs = [told_of(core, measures, form, here.args) for form in book[1][here.place]]
        numbers = [watched.number(here, form, measures) for form, _, _ in duty[4]]
        self.assertEqual(numbers[:len(needs)], needs)
        for (_, exact, origin), number in zip(duty[4][len(needs):], numbers[len(needs):]):
            if origin is None:
                # A less went the way that it did.
                self.assertGreaterEqual(number, 0)
                self.assertIs(exact, False)
                continue
            row, index = origin
            told = claim_of(core, measures, claims[index], here.within[row])
            self.assertEqual(number, -told if claims[index][4] == "most" else told)
            self.assertIs(exact, claims[index][4] == "just")
            self.ended[claims[index][4]] += 1
            self.ended["go"] += row == at and duty[2] in ("most", "least")
        self.goals[duty[2]] += 1
        self.assertIn(watched.number(here, duty[3], measures), list(self.goal_numbers(watched, book, here, at, duty)))

    def goal_numbers(self, watched, book, here, at, duty):
        """What the goal may say: of needs and claims there may be several with one word at a row."""
        core, measures = watched.core, book[0]
        row, price = core[1][here.place][3][at], watched.prices[here.place][at]
        word = duty[2]
        if row[0] in ("call", "go"):
            names = [function[0] for function in core[1]]
            other = names.index(row[-2])
            args = tuple(here.worth[arg] for arg in row[-1])
        if word == "need":
            for form in book[1][other]:
                yield told_of(core, measures, form, args)
        elif word == "rank":
            level, form = book[3][here.place]
            rank = told_of(core, measures, form, here.args)
            if duty[1] == -1:
                yield rank
            elif book[3][other][0] > level:
                yield -1
            else:
                yield rank - told_of(core, measures, book[3][other][1], args) - 1
        elif word in ("top", "held"):
            room = told_of(core, measures, book[4][here.place], here.args)
            yield room - price[2] if word == "top" else room - price[3] - told_of(core, measures, book[4][other], args)
        else:
            for claim in book[2]:
                if claim[0] == core[1][here.place][0] and claim[4] in ("just", word):
                    told = claim_of(core, measures, claim, here)
                    yield -told if word == "most" else told


class ErrorsTest(DutyCase):
    def test_the_first_wrong_argument_tells_the_error(self):
        for wrong in STRANGE:
            self.assert_raises(errors.BadCore, duties, wrong, None, None)
            self.assert_raises(errors.BadPrices, duties, JOIN, wrong, None)
            self.assert_raises(errors.BadBook, duties, JOIN, JOIN_PRICES, wrong)
        for wrong in (JOIN_PRICES[0], JOIN_PRICES + ((),), ((None,) * 4,), ((None,) * 3 + ((0, 0, 0, 0), None),), [JOIN_PRICES[0]],
                      (((1, 2, 3),) + (None,) * 4,), (((1, 2, 3, -1),) + (None,) * 4,), (((1, 2, 3, 10 ** 9 + 1),) + (None,) * 4,)):
            self.assert_raises(errors.BadPrices, duties, JOIN, wrong, None)
        self.assert_raises(errors.BadBook, duties, JOIN, JOIN_PRICES, BOOK[:4])
        self.assert_raises(errors.BadBook, duties, JOIN, JOIN_PRICES, ((PAIRS,),) + BOOK[1:])

    def test_atoms_of_made_values_are_measured(self):
        self.assertEqual(measure_of(JOIN, (LENGTH,), 1, ("Cons", (5, ("Nil", ())))), 1)


if __name__ == "__main__":
    unittest.main()
