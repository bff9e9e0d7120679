"""[2], [47], [48] and the interface's section juststeps/judging.py."""

import time
import unittest

from juststeps import errors
from juststeps.duties import duties
from juststeps.judging import book_holds, first_unshown, is_shown
from tests.helper import JOIN, JOIN_PRICES, STRANGE, Other, nested, places_of, with_part
from tests.test_books import BOOK
from tests.test_measures import LENGTH

STEPS, WORDS = (1, 4, 0), (1, 4, 1)
VALUE, LONG = (0, 3, 0), (0, 3, 1)
GOAL = (4, (((0, 3, 1), 16), ((1, 2, 0), -1)))
HINTS = (((-4, (((0, 3, 1), -16), ((1, 2, 0), 1))), True, (2, 0)), ((0, ((VALUE, 1),)), False, None))
SHOWINGS = ((1, ()),) * 10 + ((1, (0, 0)), (1, (-1, 0)), (1, (1, 0)), (1, (0, -1)), (1, (0, 1)))
BAD_NEVER = tuple(thing for thing in STRANGE if repr(thing) not in ("()", "(1,)")) + (
    (0,), (13,), (-1,), (1, 1), (2, 1), (True,), (True, 2), ("1",), [1], {1: 1}, (1, None), tuple(range(1, 14)), (1, 2, 2), nested(70))
BAD_GOALS = STRANGE + (
    (0,), (0, (), ()), [0, ()], (True, ()), (None, ()), ("0", ()), (0, []), (0, None), (0, 5), (0, (5,)), (0, ((STEPS,),)),
    (0, ((STEPS, 1, 1),)), (0, ([STEPS, 1],)), (0, ((STEPS, 0),)), (0, ((STEPS, True),)), (0, ((STEPS, "1"),)),
    (0, ((STEPS, 1), (LONG, 1))), (0, ((STEPS, 1), (STEPS, 1))), (0, ((list(STEPS), 1),)), (0, ((None, 1),)),
    (0, ((STEPS[:2], 1),)), (0, ((STEPS + (0,), 1),)), (0, (((2, 0, 0), 1),)), (0, (((-1, 0, 0), 1),)), (0, (((True, 0, 0), 1),)),
    (0, (((1, 240, 0), 1),)), (0, (((1, -1, 0), 1),)), (0, (((1, 0, 2), 1),)), (0, (((1, 0, True), 1),)), (0, (((1, 0, -1), 1),)),
    (0, (((1, True, 0), 1),)), (0, (((0, 400, 0), 1),)), (0, (((0, -2, 0), 1),)), (0, (((0, 0, 13), 1),)), (0, (((0, 0, -1), 1),)),
    (0, (((0, 0, False), 1),)), (0, (((False, 0, 0), 1),)), (0, (((0, None, 0), 1),)), (0, (("abc", 1),)), (0, ((Other(), 1),)), nested(70))
HINT = ((0, ()), False, None)
BAD_HINTS = tuple(thing for thing in STRANGE if repr(thing) != "()") + (
    [HINT], HINT, (list(HINT),), (HINT[:2],), (HINT + (None,),), (((0, ()), 0, None),), (((0, ()), None, None),),
    (((0, ()), "True", None),), (((0, ()), True, ()),), (((0, ()), True, (0,)),), (((0, ()), True, (0, 0, 0)),),
    (((0, ()), True, [0, 0]),), (((0, ()), True, (240, 0)),), (((0, ()), True, (-1, 0)),), (((0, ()), True, (0, 30)),),
    (((0, ()), True, (0, -1)),), (((0, ()), True, (True, 0)),), (((0, ()), True, (0, False)),), (((0, ()), True, 0),),
    (((0, ()), True, False),), (HINT, None), (HINT,) * 8001, (nested(60),)) + tuple(((goal, False, None),) for goal in BAD_GOALS)


class ShownCase(unittest.TestCase):
    def assert_raises(self, error, call, *args, **named):
        with self.assertRaises(error) as caught:
            call(*args, **named)
        self.assertIs(type(caught.exception), error)


class IsShownTest(ShownCase):
    def test_the_example(self):
        duty = duties(JOIN, JOIN_PRICES, BOOK)[11]
        self.assertIs(is_shown(never=(1,), goal=duty[3], hints=duty[4], thing=(1, (-1, 0))), True)
        self.assertIs(is_shown((), duty[3], duty[4], (1, (-1, 0))), True)
        for thing in ((1, (0, 0)), (1, (1, 0)), (1, (-1, 1)), (2, (-1, 0)), (-1, (1, 0)), (0, (-1, 0))):
            self.assertIs(is_shown((1,), duty[3], duty[4], thing), False, thing)
        self.assertIs(is_shown((1,), duty[3], duty[4], (3, (-3, 0))), True)

    def test_the_rest(self):
        for never, goal, told in (
            ((), (0, ()), True), ((), (-1, ()), False), ((), (5, ()), True),
            # Steps and words are never below 0, whatever never is.
            ((), (0, ((STEPS, 1),)), True), ((), (0, ((WORDS, 1),)), True), ((), (0, ((STEPS, -1),)), False),
            ((1, 2), (0, ((WORDS, -1),)), False), ((), (-1, ((STEPS, 1),)), False),
            # Measures are so if they stand in never; an integer's value is not.
            ((), (0, ((LONG, 1),)), False), ((1,), (0, ((LONG, 1),)), True), ((1,), (0, ((LONG, -1),)), False),
            ((2,), (0, ((LONG, 1),)), False), ((1, 12), (0, (((0, -1, 12), 7),)), True), ((1,), (0, ((VALUE, 1),)), False),
            (tuple(range(1, 13)), (0, ((VALUE, 1),)), False),
        ):
            self.assertIs(is_shown(never, goal, (), (1, ())), told, (never, goal))

    def test_a_scale_of_0(self):
        for const, told in ((-1, False), (0, False), (1, False)):
            self.assertIs(is_shown((), (const, ()), (), (0, ())), told)
        # The rest is then 0 less the hints: a hint of the const -1 leaves 1, one of 0 leaves 0.
        for const, told in ((-1, True), (0, False), (1, False), (-2, True)):
            hints = (((const, ()), False, None),)
            self.assertIs(is_shown((), (-9, ()), hints, (0, (1,))), told)
        self.assertIs(is_shown((), (-9, ((VALUE, 1),)), (((-1, ((STEPS, -1),)), False, None),), (0, (1,))), True)
        self.assertIs(is_shown((), (-9, ((VALUE, 1),)), (((-1, ((STEPS, 1),)), False, None),), (0, (1,))), False)
        self.assertIs(is_shown((), (0, ()), (((0, ()), False, None),), (1, (1,))), True)

    def test_multipliers_below_0(self):
        for exact in (True, False):
            hints = (((-1, ((VALUE, 1),)), exact, (0, 0)),)
            self.assertIs(is_shown((), (1, ((VALUE, -1),)), hints, (1, (-1,))), exact)
            self.assertIs(is_shown((), (-1, ((VALUE, 1),)), hints, (1, (1,))), True)
            self.assertIs(is_shown((), (-2, ((VALUE, 1),)), hints, (1, (1,))), False)

    def test_any_object(self):
        for wrong in STRANGE + ([1, (-1, 0)], (1, [-1, 0]), (1, (-1,)), (1, (-1, 0, 0)), (True, (-1, 0)), (1, (-1, False)), (1, (-1, "0")),
                                (1,), (1, (-1, 0), ()), ((1, 1), (-1, 0)), (1, None), (None, (-1, 0)), ("1", (-1, 0)), (-1, (-1, 0)),
                                (1, (Other(), 0)), (Other(), (-1, 0)), nested(80)):
            self.assertIs(is_shown((1,), GOAL, HINTS, wrong), False, wrong)

    def test_bounds_of_never_goal_and_hints(self):
        every = tuple(range(1, 13))
        self.assertIs(is_shown(every, (0, ()), (), (1, ())), True)
        edges = (0, (((0, -1, 0), 1), ((0, 399, 12), 1), ((1, 0, 0), 1), ((1, 239, 1), 10 ** 60)))
        self.assertIs(is_shown((), edges, ((edges, True, (239, 29)), (edges, False, (0, 0))), (1, (1, 0))), True)
        begun = time.monotonic()
        self.assertIs(is_shown((), edges, ((edges, True, None),) * 8000, (8000, (1,) * 8000)), True)
        self.assertIs(is_shown((), edges, ((edges, True, None),) * 8000, (8000, (1,) * 7999 + (2,))), False)
        self.assertLess(time.monotonic() - begun, 20)

    def test_errors(self):
        for wrong in BAD_NEVER:
            self.assert_raises(errors.BadNever, is_shown, wrong, None, None, None)
        for wrong in BAD_GOALS:
            self.assert_raises(errors.BadGoal, is_shown, (), wrong, None, None)
        for wrong in BAD_HINTS:
            self.assert_raises(errors.BadHints, is_shown, (), (0, ()), wrong, None)

    def test_parts_put_otherwise(self):
        for place in places_of(HINTS):
            for other in (True, "x", [], -2, 400):
                changed = with_part(HINTS, place, other)
                try:
                    is_shown((), GOAL, changed, (1, (-1, 0)))
                except errors.BadHints:
                    continue
                # What may stand there as well: another truth, const or coefficient.
                self.assertEqual(place[1:] in ((1,), (0, 0)) or place[1:2] == (0,) and place[4:] == (1,), True, changed)
                self.assertIs(other is True, place[1:] == (1,), changed)


class BookHoldsTest(ShownCase):
    def test_the_example(self):
        self.assertIs(book_holds(core=JOIN, prices=JOIN_PRICES, book=BOOK, thing=SHOWINGS), True)
        self.assertIsNone(first_unshown(core=JOIN, prices=JOIN_PRICES, book=BOOK, showings=SHOWINGS))

    def test_any_object(self):
        for wrong in STRANGE + (list(SHOWINGS), SHOWINGS[:14], SHOWINGS + SHOWINGS[:1], nested(80), (1, ()), (None,) * 15, ((0, ()),) * 15):
            self.assertIs(book_holds(JOIN, JOIN_PRICES, BOOK, wrong), False, wrong)
        empty = ((), (), (), None, None)
        self.assertIs(book_holds(((), ()), (), empty, ()), True)
        self.assertIs(book_holds(((), ()), (), empty, []), False)
        self.assertIs(book_holds(((), ()), (), empty, ((1, ()),)), False)

    def test_the_first_that_does_not_show(self):
        for at in range(15):
            for wrong in (None, (0, ()), [1, ()], (1, (1, 1)), SHOWINGS[at][:1], (True, SHOWINGS[at][1])):
                changed = SHOWINGS[:at] + (wrong,) + (None,) * (14 - at)
                self.assertEqual(first_unshown(JOIN, JOIN_PRICES, BOOK, changed), at)
                self.assertIs(book_holds(JOIN, JOIN_PRICES, BOOK, SHOWINGS[:at] + (wrong,) + SHOWINGS[at + 1:]), False)

    def test_another_number_in_the_book(self):
        for claim, first in ((("join", 1, 0, (), "just", (5, ((0, 1, 16),))), 4), (("join", 1, 0, (), "just", (3, ((0, 1, 16),))), 3),
                             (("join", 1, 0, (), "just", (4, ((0, 1, 15),))), 11), (("join", 1, 0, (), "just", (4, ((0, 1, 17),))), 12)):
            book = BOOK[:2] + ((claim, BOOK[2][1]),) + BOOK[3:]
            self.assertEqual(first_unshown(JOIN, JOIN_PRICES, book, SHOWINGS), first)
            self.assertIs(book_holds(JOIN, JOIN_PRICES, book, SHOWINGS), False)
        for ranks, rooms, first in ((((0, (0, ())),), BOOK[4], 7), (BOOK[3], ((0, ((0, 1, 1),)),), 8), (BOOK[3], ((1, ((0, 1, 1),)),), 9), (((0, (-1, ((0, 1, 1),))),), BOOK[4], 0)):
            self.assertEqual(first_unshown(JOIN, JOIN_PRICES, BOOK[:3] + (ranks, rooms), SHOWINGS), first)

    def test_measures_that_may_be_below_0(self):
        # The rank falls, but it is not 0 or more.
        falling = ("Row", ((0, ()), (-1, ((1, 1, 1),))))
        book = ((falling,), ((),), (), ((0, (0, ((0, 1, -1),))),), None)
        self.assertEqual(first_unshown(JOIN, JOIN_PRICES, book, ((1, ()),) * 2), 0)
        book = ((LENGTH,), ((),), (), ((0, (0, ((0, 1, 1),))),), None)
        self.assertIs(book_holds(JOIN, JOIN_PRICES, book, ((1, ()),) * 2), True)

    def test_errors(self):
        for call in (book_holds, first_unshown):
            for wrong in STRANGE:
                self.assert_raises(errors.BadCore, call, wrong, None, None, None)
                self.assert_raises(errors.BadPrices, call, JOIN, wrong, None, None)
                self.assert_raises(errors.BadBook, call, JOIN, JOIN_PRICES, wrong, None)
        for wrong in STRANGE + (list(SHOWINGS), SHOWINGS[:14], SHOWINGS + SHOWINGS[:1], 15):
            self.assert_raises(errors.BadShowings, first_unshown, JOIN, JOIN_PRICES, BOOK, wrong)


if __name__ == "__main__":
    unittest.main()
