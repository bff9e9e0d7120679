"""[2], [53] to [55], [70] and the interface's section juststeps/showing.py."""

import time
import unittest
from fractions import Fraction
from random import Random

from juststeps import errors
from juststeps.duties import duties
from juststeps.judging import book_holds, is_shown
from juststeps.lines import solve
from juststeps.measures import never_below
from juststeps.showing import is_open, show, show_book
from tests.helper import JOIN, JOIN_PRICES, STRANGE, Other, core_of, nested, places_of, with_part
from tests.test_books import BOOK
from tests.test_duties import made_cores
from tests.test_judging import BAD_GOALS, BAD_HINTS, BAD_NEVER, GOAL, HINTS
from tests.test_measures import LENGTH, PAIRS

POOL = [(0, -1, 0), (0, 0, 0), (0, 0, 1), (0, 1, 2), (0, 399, 12), (1, 0, 0), (1, 0, 1), (1, 239, 1)]


def made_form(random, most, atoms=POOL):
    terms = [(atom, random.randint(-most, most)) for atom in atoms if random.random() < 0.5]
    return random.randint(-most, most), tuple(sorted(term for term in terms if term[1] != 0))


def never_row(never, atom):
    return atom[0] == 1 or atom[2] in never


def value(form, point):
    point = dict(point)
    return form[0] + sum(times * Fraction(*point[atom]) for atom, times in form[1])


class ShowCase(unittest.TestCase):
    def assert_raises(self, error, call, *args, **named):
        with self.assertRaises(error) as caught:
            call(*args, **named)
        self.assertIs(type(caught.exception), error)

    def assert_told(self, never, goal, hints):
        """What show returns is right, and its scale is 0 just if the demands cannot be met; returns its word."""
        word, told = show(never, goal, hints)
        atoms = sorted({atom for form in [goal] + [hint[0] for hint in hints] for atom, _ in form[1]})
        if word == "point":
            self.assertIs(is_open(never, goal, hints, told), True, (never, goal, hints, told))
            self.assertEqual([atom for atom, _ in told], atoms)
            self.assertLess(value(goal, told), 0)
            for form, exact, _ in hints:
                self.assertTrue(value(form, told) == 0 if exact else value(form, told) >= 0)
            return word
        self.assertEqual(word, "shown")
        self.assertIs(is_shown(never, goal, hints, told), True, (never, goal, hints, told))
        places = {atom: place for place, atom in enumerate(atoms)}
        rows = tuple(((form[0], tuple((places[atom], times) for atom, times in form[1])), exact) for form, exact, _ in hints)
        rows += tuple(((0, ((places[atom], 1),)), False) for atom in atoms if never_row(never, atom))
        if len(atoms) <= 4000 and len(rows) <= 12000:
            self.assertEqual(told[0] == 0, solve((len(atoms), rows))[0] == "paper")
        return word if told[0] else "refuted"


class ShowTest(ShowCase):
    def test_the_example(self):
        never = never_below(JOIN, BOOK[0])
        for _, _, _, goal, hints in duties(JOIN, JOIN_PRICES, BOOK):
            self.assertEqual(self.assert_told(never, goal, hints), "shown")
        word, (scale, multipliers) = show(never=(1,), goal=GOAL, hints=HINTS)
        self.assertEqual(word, "shown")
        self.assertEqual((multipliers[0], multipliers[1]), (-scale, 0))

    def test_edges(self):
        half = ((0, (((0, 0, 0), 2),)), False, None)
        for never, goal, hints, word in (
            ((), (0, ()), (), "shown"), ((), (7, ()), (), "shown"), ((), (-1, ()), (), "point"),
            ((), (-1, ()), (((-1, ()), False, None),), "refuted"), ((), (-1, ()), (((1, ()), True, None),), "refuted"),
            ((), (-1, ()), (((0, ()), True, None), ((3, ()), False, None)), "point"), ((), (1, ()), (((-5, ()), False, None),), "refuted"),
            ((), (0, (((1, 0, 0), 1),)), (), "shown"), ((), (-1, (((1, 0, 0), 1),)), (), "point"), ((), (5, (((1, 0, 1), -1),)), (), "point"),
            ((), (0, (((0, 0, 1), 1),)), (), "point"), ((1,), (0, (((0, 0, 1), 1),)), (), "shown"),
            (tuple(range(1, 13)), (0, (((0, 0, 0), 1),)), (), "point"), ((), (0, (((0, 0, 0), 1),)), (half,), "shown"),
            ((), (-1, (((0, 0, 0), 1),)), (half,), "point"), ((), (1, (((0, 0, 0), -1),)), (half,), "point"),
            # 3 x - 1 is 0 or more, so 2 x is not below two thirds.
            ((), (0, (((0, 0, 0), 2),)), (((-1, (((0, 0, 0), 3),)), False, None),), "shown"),
            ((), (-1, (((0, 0, 0), 2),)), (((-1, (((0, 0, 0), 3),)), False, None),), "point"),
            ((), (-2, (((0, 0, 0), 6),)), (((-1, (((0, 0, 0), 3),)), True, None),), "shown"),
            ((), (2, (((0, 0, 0), -6),)), (((-1, (((0, 0, 0), 3),)), True, None),), "shown"),
            # What is never below 0 and what a hint says cannot be met together.
            ((), (-9, ()), (((-1, (((1, 3, 0), -1),)), False, None),), "refuted"),
            ((), (-9, ()), (((0, (((1, 3, 0), -1),)), False, None),), "point"),
            # An atom of hints alone stands in the point, too.
            ((), (-1, ()), (half, ((0, (((0, 7, 3), 1),)), True, None)), "point"),
        ):
            self.assertEqual(self.assert_told(never, goal, hints), word, (never, goal, hints))
        self.assertEqual(show((), (-1, ()), ()), ("point", ()))
        self.assertEqual(show((), (-1, (((0, 5, 0), 2),)), (((-1, (((0, 5, 0), 3),)), True, (3, 2)),)), ("point", (((0, 5, 0), (1, 3)),)))

    def test_drawn_duties(self):
        words = dict.fromkeys(("shown", "point", "refuted"), 0)
        for seed in range(1500):
            random = Random(seed)
            most = random.choice((1, 3, 10 ** 12))
            hints = tuple((made_form(random, most), random.random() < 0.2, None) for _ in range(random.randint(0, 9)))
            never = tuple(number for number in (1, 2, 12) if random.random() < 0.6)
            goal = made_form(random, most)
            if random.random() < 0.6:
                # One that hints make up, and some more.
                goal = {None: random.choice((0, 0, 1, -1))}
                for form, exact, _ in hints:
                    times = random.choice((0, 0, 1, 2, -1 if exact else 3))
                    for atom, number in ((None, form[0]),) + form[1]:
                        goal[atom] = goal.get(atom, 0) + times * number
                goal = goal.pop(None), tuple(sorted(term for term in goal.items() if term[1] != 0))
            words[self.assert_told(never, goal, hints)] += 1
        self.assertGreater(min(words.values()), 150, words)

    def test_no_bound_but_those_of_the_parts(self):
        begun = time.monotonic()
        atoms = [(0, variable, number) for variable in range(-1, 400) for number in range(13)]
        atoms += [(1, row, part) for row in range(240) for part in (0, 1)]
        self.assertEqual(len(atoms), 5693)
        # 8,000 hints and more than 5,000 atoms that are never below 0.
        hints = tuple(((-at, ((atom, 1),)), False, None) for at, atom in enumerate(atoms))
        hints += tuple(((at, ((atom, -1),)), False, (239, 29)) for at, atom in enumerate(atoms[:2307]))
        self.assertEqual(len(hints), 8000)
        never = tuple(range(1, 13))
        total = (-sum(range(5693)), tuple((atom, 1) for atom in atoms))
        self.assertEqual(self.assert_told(never, total, hints), "shown")
        self.assertEqual(self.assert_told(never, (total[0] - 1, total[1]), hints), "point")
        goal = (0, tuple((atom, 1) for atom in atoms))
        self.assertEqual(show(never, goal, ())[0], "point")
        self.assertEqual(show(never, (0, tuple((atom, 1) for atom in atoms if never_row(never, atom))), ())[0], "shown")
        self.assertLess(time.monotonic() - begun, 60)

    def test_many_hints_that_hang_together(self):
        begun = time.monotonic()
        # The steps of each call are at most those of the one ahead and one more, or just so.
        for exact in (True, False):
            hints = [((5, (((1, 0, 0), -1),)), exact, (0, 0))]
            for row in range(1, 240):
                hints.append(((1, (((1, row - 1, 0), 1), ((1, row, 0), -1))), exact, (row, 0)))
            goal = (sum(5 + row for row in range(240)), tuple(((1, row, 0), -1) for row in range(240)))
            self.assertEqual(self.assert_told((), goal, tuple(hints)), "shown")
            self.assertEqual(self.assert_told((), (goal[0] - 1, goal[1]), tuple(hints)), "point")
        hints = tuple(((row % 7, tuple(sorted((((0, row % 40, 1), 1), ((0, row * row % 40, 2), row % 5 - 2 or 1))))), False, None)
                      for row in range(3000))
        self.assert_told((1, 2), (-3, (((0, 3, 1), 1), ((0, 7, 2), 2))), hints)
        self.assertLess(time.monotonic() - begun, 60)


class IsOpenTest(ShowCase):
    HINTS = (((-1, (((0, 0, 0), 1),)), False, None), ((0, (((0, 0, 1), 1), ((1, 2, 0), -2))), True, (2, 0)))
    GOAL = (-9, (((0, 0, 0), 1), ((0, 1, 1), 1)))
    POINT = (((0, 0, 0), (1, 1)), ((0, 0, 1), (1, 1)), ((0, 1, 1), (15, 2)), ((1, 2, 0), (1, 2)))

    def test_points(self):
        for at, ratio, told in (
            (0, (1, 1), True), (0, (1, 2), False), (0, (3, 2), False), (0, (5, 4), True), (2, (8, 1), False), (2, (0, 1), True),
            (2, (-1, 7), False), (1, (2, 1), False), (3, (1, 1), False), (3, (-1, 2), False),
        ):
            point = with_part(self.POINT, (at, 1), ratio)
            self.assertIs(is_open(never=(1,), goal=self.GOAL, hints=self.HINTS, thing=point), told, (at, ratio))
        below = with_part(self.POINT, (2, 1), (-1, 7))
        self.assertIs(is_open((), self.GOAL, self.HINTS, below), True)
        # What a call takes is never below 0.
        both = with_part(with_part(self.POINT, (1, 1), (-1, 1)), (3, 1), (-1, 2))
        self.assertIs(is_open((), self.GOAL, self.HINTS, both), False)

    def test_any_object(self):
        for wrong in STRANGE + (list(self.POINT), self.POINT[:3], self.POINT + self.POINT[3:], self.POINT[::-1], dict(self.POINT),
                                nested(80), ((0, 0, 0),) * 4, (Other(),) * 4, ((Other(), (1, 1)),) * 4):
            self.assertIs(is_open((1,), self.GOAL, self.HINTS, wrong), False, wrong)
        for place in places_of(self.POINT):
            for other in (None, True, False, "x", [], (), 0.5 > 1, -7, (2, 2), (1, 0), (1, -1)):
                changed = with_part(self.POINT, place, other)
                if is_open((1,), self.GOAL, self.HINTS, changed):
                    # Only another ratio at the first or the third atom is a point as well.
                    self.assertTrue(place in ((0, 1, 0), (0, 1, 1), (2, 1, 0), (2, 1, 1)) and other == -7, changed)
        # Other atoms with right ratios, and entries with more parts.
        for at, atom in ((0, (0, -1, 0)), (1, (0, 0, 2)), (2, (0, 1, 2)), (3, (1, 2, 1)), (0, (0, 0, False))):
            self.assertIs(is_open((1,), self.GOAL, self.HINTS, with_part(self.POINT, (at, 0), atom)), False)
            self.assertIs(is_open((1,), self.GOAL, self.HINTS, with_part(self.POINT, (at,), self.POINT[at] + (1,))), False)
        self.assertIs(is_open((), (-1, ()), (), ()), True)
        self.assertIs(is_open((), (0, ()), (), ()), False)

    def test_errors(self):
        for call, more in ((show, ()), (is_open, (None,))):
            for wrong in BAD_NEVER:
                self.assert_raises(errors.BadNever, call, wrong, None, None, *more)
            for wrong in BAD_GOALS:
                self.assert_raises(errors.BadGoal, call, (), wrong, None, *more)
            for wrong in BAD_HINTS:
                self.assert_raises(errors.BadHints, call, (), (0, ()), wrong, *more)


class ShowBookTest(ShowCase):
    def test_the_example(self):
        word, showings = show_book(core=JOIN, prices=JOIN_PRICES, book=BOOK)
        self.assertEqual(word, "shown")
        self.assertIs(book_holds(JOIN, JOIN_PRICES, BOOK, showings), True)
        self.assertEqual(show_book(((), ()), (), ((), (), (), None, None)), ("shown", ()))

    def test_the_first_open_duty(self):
        for claim, first in ((("join", 1, 0, (), "just", (5, ((0, 1, 16),))), 4), (("join", 1, 0, (), "just", (3, ((0, 1, 16),))), 3),
                             (("join", 1, 0, (), "just", (4, ((0, 1, 15),))), 11), (("join", 1, 0, (), "just", (4, ((0, 1, 17),))), 12)):
            book = BOOK[:2] + ((claim, BOOK[2][1]),) + BOOK[3:]
            word, index, point = show_book(JOIN, JOIN_PRICES, book)
            self.assertEqual((word, index), ("point", first))
            duty = duties(JOIN, JOIN_PRICES, book)[index]
            self.assertIs(is_open((1,), duty[3], duty[4], point), True)

    def test_an_open_duty_of_one_row_does_not_hang_on_the_others(self):
        # Two claims at one give: the atoms of the one's goal do not stand in the point of the other.
        core = core_of((("give", 0),), ("whole", "whole"))
        claims = (("f", 0, 0, ((0, 1),), "most", (0, ((0, 0, 1),))), ("f", 0, 0, ((0, 1),), "most", (0, ((1, 0, 1),))),
                  ("f", 0, 0, (), "least", (-1, ((1, 0, 1),))))
        word, index, point = show_book(core, ((((1, 0, 0, 0)),),), ((), ((),), claims, None, None))
        self.assertEqual((word, index, [atom for atom, _ in point]), ("point", 1, [(0, 0, 0), (0, 1, 0)]))
        word, index, point = show_book(core, ((((1, 0, 0, 0)),),), ((), ((),), claims[:1] + claims[2:], None, None))
        self.assertEqual((word, index, [atom for atom, _ in point]), ("point", 1, [(0, 1, 0)]))

    def test_drawn_books(self):
        words = {"shown": 0, "point": 0}
        later = 0
        for drawer, core in made_cores(700, 860, 70):
            drawer.most = 3
            prices = drawer.prices(core)
            book = drawer.book(core, drawer.measures(core[0], 2), drawer.random.choice((0, 1, 2)))
            if drawer.random.random() < 0.5:
                # Claims that say next to nothing, so that later duties are looked at, too.
                book = book[:2] + (tuple((name, 0, 1, (), "least", (-5, ())) for name, *_ in book[2]), None, None)
            told = show_book(core, prices, book)
            words[told[0]] += 1
            never, found = never_below(core, book[0]), duties(core, prices, book)
            if told[0] == "shown":
                self.assertIs(book_holds(core, prices, book, told[1]), True)
                self.assertEqual({show(never, *duty[3:])[0] for duty in found} | {"shown"}, {"shown"})
            else:
                self.assertIs(is_open(never, *found[told[1]][3:], told[2]), True)
                self.assertEqual([show(never, *duty[3:])[0] for duty in found[:told[1] + 1]], ["shown"] * told[1] + ["point"])
                later += told[1] > 0
        self.assertGreater(min(words["shown"], words["point"], later), 15, (words, later))

    def test_errors(self):
        for wrong in STRANGE:
            self.assert_raises(errors.BadCore, show_book, wrong, None, None)
            self.assert_raises(errors.BadPrices, show_book, JOIN, wrong, None)
            self.assert_raises(errors.BadBook, show_book, JOIN, JOIN_PRICES, wrong)
        self.assert_raises(errors.BadBook, show_book, JOIN, JOIN_PRICES, ((LENGTH, PAIRS),) + BOOK[1:4])


if __name__ == "__main__":
    unittest.main()
