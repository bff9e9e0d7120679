"""[51], [52] and the interface's section juststeps/lines.py."""

import itertools
import time
import unittest
from fractions import Fraction
from random import Random

from juststeps import errors
from juststeps.lines import is_least, keeps, least, refutes, solve
from tests.helper import STRANGE, nested, places_of, with_part

ROWS = (((-1, ((0, 1),)), False), ((-3, ((0, 1), (1, 1))), False))
S = (2, ROWS)
THREE = (2, ROWS + (((1, ((0, -1), (1, -1))), False),))
BAD_LINES = STRANGE + (
    (0, ((2, 1),)), (0, ((-1, 1),)), (0, ((0, 0),)), (0, ((0, 1), (0, 1))), (0, ((1, 1), (0, 1))), (0, [(0, 1)]),
    (0, ([0, 1],)), [0, ()], (0,), (0, (), ()), (True, ()), ("0", ()), (0, ((True, 1),)), (0, ((0, True),)), (None, ()),
    (0, ((0, 1, 1),)), (0, ((0,),)), (0, (0, 1)), (0, None), (0, ((0, "1"),)), (0, ((None, 1),)), (0, nested(70)))


def value(line, point):
    return line[0] + sum(coefficient * point[unknown] for unknown, coefficient in line[1])


def made_line(random, count, most, dense=0.7, const=None):
    terms = tuple((unknown, random.choice((-1, 1)) * random.randint(1, most)) for unknown in range(count)
                  if random.random() < dense)
    return random.randint(-most, most) if const is None else const, terms


def made_system(random, count, many, most=3, exact=0.15, flat=0.3):
    """A system of so many rows; of a share of flat the const is 0, so that many exchanges change nothing."""
    rows = tuple((made_line(random, count, most, const=0 if random.random() < flat else None), random.random() < exact)
                 for _ in range(many))
    return count, rows


class LineCase(unittest.TestCase):
    def assert_solved(self, system):
        """What solve returns is judged right; returns its word."""
        word, *rest = solve(system)
        self.assertEqual(len(rest), 1)
        self.assertTrue((keeps if word == "point" else refutes)(system, rest[0]), (system, word, rest))
        self.assertIn(word, ("point", "paper"))
        return word

    def assert_least(self, system, line):
        result = least(system, line)
        self.assertTrue(is_least(system, line, result), (system, line, result))
        self.assertEqual(result[0] == "paper", self.assert_solved(system) == "paper")
        return result


class ExampleTest(LineCase):
    def test_the_example(self):
        self.assertIs(keeps(system=S, thing=((3, 1), (0, 1))), True)
        self.assertIs(refutes(system=THREE, thing=(0, 1, 1)), True)
        self.assertEqual(solve(system=THREE)[0], "paper")
        found = self.assert_least(S, (0, ((0, 1), (1, 2))))
        self.assertEqual(found[0], "below")
        point = ((1, 1), (2, 1))
        self.assertTrue(is_least(S, (0, ((0, 1), (1, 2))), ("below", point, (1, -1))))
        line = (0, ((0, 2), (1, 1)))
        self.assertEqual(least(system=S, line=line), ("least", point, 1, (1, 1)))
        self.assertIs(is_least(system=S, line=line, thing=("least", point, 1, (1, 1))), True)


class JudgesTest(LineCase):
    def test_keeps(self):
        exact = (2, (((-4, ((0, 1), (1, 2))), True), ((0, ((0, 3),)), False)))
        for point, right in (
            (((0, 1), (2, 1)), True), (((4, 1), (0, 1)), True), (((1, 1), (3, 2)), True), (((1, 3), (11, 6)), True),
            (((1, 1), (1, 1)), False), (((6, 1), (-1, 1)), True), (((-2, 1), (3, 1)), False), (((1, 1), (2, 1)), False),
        ):
            self.assertIs(keeps(exact, point), right, point)
        self.assertIs(keeps(S, ((1, 1), (2, 1))), True)
        self.assertIs(keeps(S, ((1, 1), (199, 100))), False)
        self.assertIs(keeps(S, ((99, 100), (5, 1))), False)

    def test_keeps_any_object(self):
        for thing in STRANGE + (((1, 1),), ((1, 1),) * 3, ((5, 1), (2, 2)), ((5, 1), (0, 2)), ((5, 1), (1, 0)), (5, 5),
                                ((5, 1), (1, -1)), [(5, 1), (5, 1)], ((5, 1), [5, 1]), ((5, 1), None), nested(80),
                                ((5, 1), (True, 1)), ((5, 1), (5, 1, 1)), ((5, 1), "51")):
            self.assertIs(keeps(S, thing), False, thing)

    def test_refutes(self):
        for multipliers, right in (
            ((0, 1, 1), True), ((0, 2, 2), True), ((0, 0, 0), False), ((0, 1, 2), False), ((1, 1, 1), False),
            ((0, -1, -1), False), ((-1, 1, 1), False), ((0, 1), False), ((0, 1, 1, 0), False),
        ):
            self.assertIs(refutes(THREE, multipliers), right)
        for thing in STRANGE + ([0, 1, 1], (0, True, 1), (0, 1, "1"), (0, 1, None), nested(80)):
            self.assertIs(refutes(THREE, thing), False, thing)
        # The multiplier of an exact row may be below 0; a sum above 0 and a sum of 0 refute nothing.
        exact = (1, (((5, ((0, 1),)), True), ((2, ((0, 1),)), False)))
        self.assertTrue(refutes(exact, (-1, 1)))
        self.assertFalse(refutes(exact, (1, -1)))
        self.assertFalse(refutes((1, (((5, ((0, 1),)), False), ((2, ((0, 1),)), True))), (1, -1)))
        self.assertFalse(refutes((1, (((2, ((0, 1),)), False), ((2, ((0, 1),)), True))), (1, -1)))
        self.assertTrue(refutes((0, (((3, ()), True),)), (-1,)))
        self.assertFalse(refutes((0, (((3, ()), True),)), (1,)))

    def test_is_least_of_each_word(self):
        line = (1, ((0, 2), (1, 1)))
        point = ((1, 1), (2, 1))
        good = ("least", point, 1, (1, 1))
        self.assertTrue(is_least(S, line, good))
        self.assertTrue(is_least(S, line, ("least", point, 3, (3, 3))))
        for wrong in (
            ("least", point, 0, (0, 0)), ("least", point, 1, (1, 2)), ("least", point, 2, (1, 1)), ("least", point, 1, (1,)),
            ("least", ((2, 1), (1, 1)), 1, (1, 1)), ("least", ((1, 1), (1, 1)), 1, (1, 1)), ("least", point, 1),
            ("least", point, True, (1, 1)), ("least", point, -1, (-1, -1)), ("least", point, 1, [1, 1]), ("least",),
            ("least", [(1, 1), (2, 1)], 1, (1, 1)), ("least", point, 1, (1, 1), ()), ("Least", point, 1, (1, 1)),
            ["least", point, 1, (1, 1)], ("below", point, 1, (1, 1)), ("paper", (0, 0)), ("paper",), ("below", point),
            ("least", point, 1, (1, True)), ("least", None, None, None), ("below", None, None), ("paper", None),
        ) + STRANGE:
            self.assertIs(is_least(S, line, wrong), False, wrong)
        self.assertTrue(is_least(THREE, line, ("paper", (0, 1, 1))))
        self.assertFalse(is_least(THREE, line, ("paper", (0, 1, 2))))
        self.assertFalse(is_least(THREE, line, ("paper", (0, 1, 1), ())))

    def test_is_least_of_multipliers_that_show_another_line(self):
        # The consts would fit, but the terms are others.
        point = ((1, 1), (2, 1))
        for multipliers in ((4, 0), (0, 4), (1, 1)):
            line = (1, ((0, 2), (1, 1)))
            self.assertIs(is_least(S, line, ("least", point, 1, multipliers)), multipliers == (1, 1))
        self.assertIs(is_least(S, (5, ((1, 1),)), ("least", point, 1, (-2, 0))), False)
        # With the scale 0, or one below 0, anything would be least.
        self.assertIs(is_least(S, (5, ()), ("least", point, 1, (0, 0))), True)
        self.assertIs(is_least(S, (5, ()), ("least", point, 0, (0, 0))), False)
        exact = (1, (((-1, ((0, 1),)), True),))
        for scale in (1, 0, -1):
            self.assertIs(is_least(exact, (0, ((0, 1),)), ("least", ((1, 1),), scale, (scale,))), scale == 1)

    def test_is_least_of_a_slope(self):
        line = (0, ((0, 1), (1, 2)))
        point = ((1, 1), (2, 1))
        for slope, right in (
            ((1, -1), True), ((3, -2), True), ((2, -2), True), ((0, 0), False), ((1, 0), False), ((-1, 1), False),
            ((0, -1), False), ((2, -1), False), ((1, -1, 0), False), ((1,), False), ([1, -1], False), ((1, True), False),
            (((1, 1), (-1, 1)), False), (None, False),
        ):
            self.assertIs(is_least(S, line, ("below", point, slope)), right, slope)
        self.assertFalse(is_least(S, line, ("below", ((0, 1), (3, 1)), (1, -1))))
        exact = (2, (((0, ((0, 1), (1, 1))), True),))
        self.assertTrue(is_least(exact, (0, ((0, 1),)), ("below", ((0, 1), (0, 1)), (-1, 1))))
        self.assertFalse(is_least(exact, (0, ((0, 1),)), ("below", ((0, 1), (0, 1)), (-1, 2))))

    def test_parts_of_right_results_put_otherwise(self):
        for line, thing in (((0, ((0, 2), (1, 1))), ("least", ((1, 1), (2, 1)), 1, (1, 1))),
                            ((0, ((0, 1), (1, 2))), ("below", ((1, 1), (2, 1)), (1, -1)))):
            for place in places_of(thing):
                for other in (None, True, "x", (), (1,), [], -7, (1, -1, 1)):
                    changed = with_part(thing, place, other)
                    if changed != thing:
                        self.assertIs(is_least(S, line, changed), False, changed)


class SolveTest(LineCase):
    def test_edges(self):
        for system, word in (
            ((0, ()), "point"), ((3, ()), "point"), ((0, (((0, ()), True), ((5, ()), False))), "point"),
            ((0, (((-1, ()), False),)), "paper"), ((0, (((1, ()), True),)), "paper"), ((0, (((-1, ()), True),)), "paper"),
            ((2, (((-1, ()), False),)), "paper"), ((1, (((0, ()), False), ((-5, ((0, 1),)), True))), "point"),
            ((1, (((-5, ((0, 1),)), True), ((-6, ((0, 1),)), True))), "paper"),
            ((1, (((-5, ((0, 1),)), True), ((-10, ((0, 2),)), True))), "point"),
            ((1, (((-5, ((0, 1),)), True), ((-6, ((0, 1),)), False))), "paper"),
            ((1, (((-5, ((0, 1),)), False), ((4, ((0, -1),)), False))), "paper"),
            ((1, (((-5, ((0, 1),)), False), ((5, ((0, -1),)), False))), "point"),
            ((1, (((-1, ((0, 3),)), True),)), "point"), ((2, (((0, ((0, 1), (1, -1))), True), ((-1, ((1, 1),)), False))), "point"),
        ):
            self.assertEqual(self.assert_solved(system), word, system)
        self.assertEqual(solve((0, ())), ("point", ()))
        self.assertEqual(solve((1, (((-1, ((0, 3),)), True),))), ("point", ((1, 3),)))

    def test_made_systems(self):
        words = {"point": 0, "paper": 0, "least": 0, "below": 0}
        for seed in range(1500):
            random = Random(seed)
            count = random.randint(0, 6)
            system = made_system(random, count, random.randint(0, 11), random.choice((1, 3, 10 ** 6)),
                                 random.choice((0, 0.1, 0.5)), random.choice((0, 0.3, 0.9)))
            words[self.assert_solved(system)] += 1
            result = self.assert_least(system, made_line(random, count, 4))
            words[result[0]] += result[0] != "paper"
        self.assertGreater(min(words.values()), 100, words)

    def test_least_is_least_among_the_corners(self):
        # Of two unknowns: the corners are where two rows are 0.
        compared = 0
        for seed in range(400):
            random = Random(seed)
            box = tuple(((9, ((unknown, sign),)), False) for unknown in range(2) for sign in (-1, 1))
            system = (2, box + made_system(random, 2, random.randint(0, 5))[1])
            line = made_line(random, 2, 5)
            values = [value(line, point) for point in corners(system)
                      if all(value(row, point) == 0 if exact else value(row, point) >= 0 for row, exact in system[1])]
            result = self.assert_least(system, line)
            self.assertEqual(result[0], "least" if values else "paper")
            if values:
                compared += 1
                self.assertEqual(value(line, [Fraction(*part) for part in result[1]]), min(values))
        self.assertGreater(compared, 150)

    def test_exchanges_that_could_go_round(self):
        beale = (((0, ((0, -1), (1, 240), (2, 4), (3, -36))), False), ((0, ((0, -1), (1, 180), (2, 1), (3, -6))), False),
                 ((1, ((2, -1),)), False)) + tuple(((0, ((unknown, 1),)), False) for unknown in range(4))
        result = self.assert_least((4, beale), (0, ((0, -3), (1, 600), (2, -2), (3, 24))))
        self.assertEqual(value((0, ((0, -3), (1, 600), (2, -2), (3, 24))), [Fraction(*part) for part in result[1]]), -5)
        for seed in range(150):
            random = Random(seed)
            count = random.randint(3, 8)
            rows = made_system(random, count, random.randint(5, 20), 2, 0, 0.95)[1]
            rows += tuple(((0, ((unknown, 1),)), False) for unknown in range(count))
            for order in (rows, rows[::-1]):
                self.assert_least((count, order), made_line(random, count, 3))

    def test_exchanges_that_do_go_round(self):
        # With the steepest way down, and with the row that is broken most, these go round for ever.
        for ahead, terms, line, found in (
            (2, (((0, -1), (1, 11), (2, 5), (3, -18)), ((0, -1), (1, 3), (2, 1), (3, -2)), ((0, -2),)),
             ((0, -20), (1, 114), (2, 18), (3, 48)), -1),
            (100, (((0, -25), (1, 6000), (2, 4), (3, -900)), ((0, -50), (1, 9000), (2, 2), (3, -300)), ((2, -100),)),
             ((0, -75), (1, 15000), (2, -2), (3, 600)), Fraction(-1, 20)),
        ):
            rows = tuple(((0, ((unknown, ahead),)), False) for unknown in range(4))
            rows += tuple(((int(len(each) == 1), each), False) for each in terms)
            result = self.assert_least((4, rows), (0, line))
            self.assertEqual(value((0, line), [Fraction(*part) for part in result[1]]), found)
        for count, more in (
            (4, ((-1, (2, 7, -4, -9)), (-2, (3, 6, 5, 7)), (1, (12, 8, -2, -9)), (-1, (3, 7, 8, -5)))),
            (4, ((0, (2, 11, 3, 5)), (0, (-10, -5, 7, -10)), (-2, (-6, -3, 7, 8)), (1, (-3, -2, -2, 3)),
                 (1, (7, 7, -3, 0)))),
            (4, ((0, (-11, -9, 12, 8)), (1, (2, -3, 0, -10)), (-1, (-11, -8, -1, -10)), (0, (-4, 10, 4, -1)))),
            (5, ((-2, (-1, 0, -2, 5, -5)), (1, (-1, 2, -3, -1, 0)), (1, (2, 5, 4, 0, -2)), (0, (-4, -3, -3, 0, -5)),
                 (0, (-3, -1, -3, 2, 3)))),
            (5, ((1, (-12, -3, -7, 3, -10)), (-2, (-9, 5, -2, 11, -10)), (-2, (6, -5, 6, 9, 5)), (1, (4, -3, -10, 7, -4)))),
        ):
            rows = tuple(((0, ((unknown, 1),)), False) for unknown in range(count))
            rows += (((-1, tuple((unknown, 1) for unknown in range(count))), False),)
            rows += tuple(((const, tuple((unknown, n) for unknown, n in enumerate(each) if n)), False)
                          for const, each in more)
            self.assert_solved((count, rows))
            self.assert_least((count, rows), (0, ((0, 1), (3, -1))))

    def test_cubes_that_are_pressed_in(self):
        for count in (4, 8):
            rows = tuple(((0, ((unknown, 1),)), False) for unknown in range(count))
            for at in range(count):
                rows += (((100 ** at, tuple((k, -2 * 10 ** (at - k)) for k in range(at)) + ((at, -1),)), False),)
            line = (0, tuple((at, -10 ** (count - 1 - at)) for at in range(count)))
            result = self.assert_least((count, rows), line)
            self.assertEqual(value(line, [Fraction(*part) for part in result[1]]), -100 ** (count - 1))

    def test_twenty_unknowns_and_forty_rows(self):
        begun = time.monotonic()
        words = {"paper": 0, "least": 0, "below": 0}
        for seed in range(4):
            random = Random(seed)
            most = 10 ** 30
            centre = [random.randint(-9, 9) for _ in range(20)]
            rows = []
            for at in range(40):
                const, terms = made_line(random, 20, most, 1)
                if seed % 2 == 0:
                    const = -value((0, terms), centre) + (0 if at % 3 == 0 else random.randint(0, most))
                rows.append(((const, terms), at % 9 == 0))
            weights = [random.randint(0, 3) for _ in rows]
            sums = [sum(weight * dict(row[1])[unknown] for weight, (row, _) in zip(weights, rows)) for unknown in range(20)]
            line = (0, tuple((unknown, sums[unknown]) for unknown in range(20) if sums[unknown]))
            words[self.assert_least((20, tuple(rows)), line)[0]] += 1
            words[self.assert_least((20, tuple(rows[:12])), made_line(random, 20, most, 1))[0]] += 1
        self.assertGreater(min(words["least"], words["below"]), 1, words)
        self.assertLess(time.monotonic() - begun, 60)

    def test_wide_systems(self):
        begun = time.monotonic()
        many = 4000
        rows = tuple(((-at, ((at, 1),)), False) for at in range(many))
        rows += tuple(((10 ** 5, ((at, -1), (at + 1, -1))), False) for at in range(many - 1))
        result = self.assert_least((many, rows), (0, tuple((at, 1) for at in range(many))))
        self.assertEqual(value((0, tuple((at, 1) for at in range(many))), [Fraction(*part) for part in result[1]]),
                         sum(range(many)))
        # Many that are told by few: each unknown is shared out among some others, and only one row binds them all.
        rows = tuple(((0, ((at, 1), (at + 1, -1))), True) for at in range(0, 600, 2))
        rows += tuple(((0, ((at, 1),)), False) for at in range(600)) + (((-7, tuple((at, 1) for at in range(600))), False),)
        self.assertEqual(self.assert_least((600, rows), (0, tuple((at, 1 + at) for at in range(600))))[0], "least")
        self.assertLess(time.monotonic() - begun, 60)


def corners(system):
    for (one, _), (two, _) in itertools.combinations(system[1], 2):
        a, b = dict(one[1]), dict(two[1])
        a, b = [a.get(0, 0), a.get(1, 0), -one[0]], [b.get(0, 0), b.get(1, 0), -two[0]]
        area = a[0] * b[1] - a[1] * b[0]
        if area:
            yield Fraction(a[2] * b[1] - a[1] * b[2], area), Fraction(a[0] * b[2] - a[2] * b[0], area)


class ErrorsTest(LineCase):
    def test_systems(self):
        rows = ((0, ((0, 1),)), False)
        bad = STRANGE + (
            (1, [rows]), [1, (rows,)], (1, (rows,), ()), (-1, ()), (True, (rows,)), (4001, ()), (1, rows), ("1", ()),
            (1, (rows + (1,),)), (1, ((rows[0], 0),)), (1, ((rows[0], 1),)), (1, ((rows[0], None),)), (1, (list(rows),)),
            (0, (rows,)), (1, (rows,) * 12001), (1, ((rows[0],),)), (None, ()), (1, None), (1, nested(70)),
        ) + tuple((2, ((line, False),)) for line in BAD_LINES)
        for thing in bad:
            for call in (lambda: keeps(thing, None), lambda: refutes(thing, None), lambda: solve(thing),
                         lambda: least(thing, None), lambda: is_least(thing, None, None)):
                with self.assertRaises(errors.BadSystem):
                    call()

    def test_lines(self):
        for line in BAD_LINES:
            with self.assertRaises(errors.BadLine):
                least(S, line)
            with self.assertRaises(errors.BadLine):
                is_least(S, line, None)
            with self.assertRaises(errors.BadLine):
                is_least(THREE, line, ("paper", (0, 1, 1)))
        self.assertEqual(least((0, ()), (7, ())), ("least", (), 1, ()))

    def test_four_thousand_unknowns_and_twelve_thousand_rows(self):
        row = ((-1, ((3999, 1),)), False)
        system = (4000, (row,) * 12000)
        self.assertEqual(self.assert_solved(system), "point")
        self.assertEqual(self.assert_least(system, (0, ((3999, 2),)))[0], "least")
        for wrong in ((4001, (row,)), (4000, (row,) * 12001), (3999, (row,))):
            with self.assertRaises(errors.BadSystem):
                solve(wrong)
        with self.assertRaises(errors.BadLine):
            least(system, (0, ((4000, 1),)))


if __name__ == "__main__":
    unittest.main()
