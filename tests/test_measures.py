"""[2], [38], [39] and the interface's section juststeps/measures.py."""

import time
import unittest

from juststeps import errors
from juststeps.measures import measured, never_below
from tests.bookish import Drawer, measure_of
from tests.helper import BOX, JOIN, MADE_KINDS, ROW, STRANGE, nested, places_of, row_words, value_of, with_part

LENGTH = ("Row", ((0, ()), (1, ((1, 1, 1),))))
PAIRS = ("Row", ((0, ()), (0, ((1, 1, 1), (1, 2, 1)))))
TREE = ("Tree", (("Leaf", ()), ("Node", ("Tree", "whole", "Tree"))))
KINDS = (ROW, BOX, TREE)
CORE = (KINDS, ())
MOST = 10 ** 6


def row_measure(*terms, const=1):
    return ("Row", ((0, ()), (const, terms)))


# Each is measures for CORE but for one thing.
BAD_MEASURES = tuple(thing for thing in STRANGE if repr(thing) != "()") + (
    [LENGTH], (list(LENGTH),), (LENGTH[0],), ((LENGTH[0],),), (LENGTH + ((),),), ((None, LENGTH[1]),), (LENGTH, None),
    (("whole", ()),), (("whole", ((0, ()),)),), (("Other", LENGTH[1]),), (("Nil", LENGTH[1]),), (("Row", list(LENGTH[1])),),
    (("Row", LENGTH[1][:1]),), (("Row", LENGTH[1] + ((0, ()),)),), (("Row", ((0, ()), None)),), (("Row", ((0,), (1, ()))),),
    (("Row", ((0, ()), [1, ()])),), (("Row", ((0, ()), (1, (), ()))),), (("Row", ((0, ()), (1, []))),),
    (("Row", ((0, ((0, 0, 1),)), (1, ()))),), (("Row", ((True, ()), (1, ()))),), (("Row", (("0", ()), (1, ()))),),
    (("Row", ((0, None), (1, ()))),), (("Row", ((0, 7), (1, ()))),),
    (row_measure((1, 1, 0)),), (row_measure((1, 1, True)),), (row_measure((1, 1, "1")),), (row_measure((1, 1)),),
    (row_measure((1, 1, 1, 1)),), (row_measure([1, 1, 1]),), (row_measure((2, 1, 1)),), (row_measure((-1, 1, 1)),),
    (row_measure((True, 1, 1)),), (row_measure((1, True, 1)),), (row_measure((1, None, 1)),), (row_measure((1, 2, 1)),),
    (row_measure((1, 0, 1)),), (row_measure((0, 1, 1)),), (row_measure((0, -1, 1)),), (row_measure((1, -1, 1)),),
    (row_measure((1, 1, 1), (0, 0, 1)),), (row_measure((0, 0, 1), (0, 0, 2)),), (row_measure((1, 1, 1), (1, 1, 1)),),
    (row_measure((1, 2, 1), (1, 1, 1)), LENGTH), (row_measure((1, 2, 1)), ("Box", ((0, ()),))),
    (row_measure((1, 1, MOST + 1)),), (row_measure((1, 1, -MOST - 1)),), (row_measure(const=MOST + 1),),
    (row_measure(const=-MOST - 1),), (LENGTH,) * 13, (nested(60),), nested(70),
)


class MeasureCase(unittest.TestCase):
    def assert_raises(self, error, call, *args, **named):
        with self.assertRaises(error) as caught:
            call(*args, **named)
        self.assertIs(type(caught.exception), error)


class MeasuredTest(MeasureCase):
    def test_the_example(self):
        words = ("Cons", 5, "Cons", 5, "Cons", 5, "Nil")
        self.assertEqual(measured(JOIN, (LENGTH, PAIRS), 1, words), 3)
        self.assertEqual(measured(core=JOIN, measures=(LENGTH, PAIRS), number=2, words=words), 3)

    def test_measures_of_many_sorts(self):
        measures = (
            LENGTH,
            ("Row", ((0, ()), (0, ((0, 0, 1), (1, 2, 1))))),
            ("Row", ((1, ()), (0, ((1, 3, 2),)))),
            ("Tree", ((1, ()), (1, ((0, 4, 1), (2, 4, 1))))),
            ("Tree", ((0, ()), (0, ((0, 4, 1), (0, 5, 1), (2, 4, 1), (2, 5, 1))))),
            ("Box", ((-7, ((0, 0, -3),)),)),
        )
        words = row_words([4, -9, 10 ** 30])
        for number, told in ((1, 3), (2, 10 ** 30 - 5), (3, 8)):
            self.assertEqual(measured(CORE, measures, number, words), told)
        tree = ("Node", "Node", "Leaf", 1, "Leaf", 2, "Node", "Leaf", 3, "Node", "Leaf", 4, "Leaf")
        self.assertEqual(measured(CORE, measures, 4, tree), 9)
        # The sum over all parts of the sizes of their own parts: 2 + 2 + 4 + 8.
        self.assertEqual(measured(CORE, measures, 5, tree), 16)
        self.assertEqual(measured(CORE, measures, 6, ("Box", 5)), -22)
        self.assertEqual(measured(CORE, measures, 6, ("Box", -5)), 8)

    def test_number_0_is_the_integer_itself(self):
        for number in (0, -3, 10 ** 40):
            self.assertEqual(measured(CORE, (), 0, (number,)), number)
            self.assertEqual(measured(CORE, (LENGTH,), 0, (number,)), number)

    def test_drawn_values(self):
        for seed in range(300):
            drawer = Drawer(seed)
            measures = drawer.measures(many=drawer.random.randint(0, 12))
            for number, (kind, _) in enumerate(measures, start=1):
                words = drawer.maker.value(kind)
                self.assertEqual(measured((MADE_KINDS, ()), measures, number, words),
                                 measure_of((MADE_KINDS, ()), measures, number, value_of(words)))

    def test_chains_of_four_thousand_words(self):
        begun = time.monotonic()
        deep = (("Nat", (("Zero", ()), ("Succ", ("Nat",)))), ROW, TREE)
        doubled = ("Nat", ((1, ()), (0, ((0, 1, 2),))))
        chain = ("Succ",) * 3999 + ("Zero",)
        self.assertEqual(measured((deep, ()), (doubled,), 1, chain), 2 ** 3999)
        every = tuple(("Nat", ((MOST, ()), (MOST, tuple((0, number, MOST) for number in range(1, 13))))) for _ in range(12))
        self.assertEqual(measured((deep, ()), every, 12, chain[-3:]), MOST + 12 * MOST * (MOST + 12 * MOST * MOST))
        self.assertGreater(measured((deep, ()), every, 12, chain).bit_length(), 90000)
        left = ("Node",) * 1333 + ("Leaf",) + (7, "Leaf") * 1333
        right = ("Node", "Leaf", 7) * 1333 + ("Leaf",)
        depth = (("Tree", ((0, ()), (1, ((0, 1, 2), (1, 0, 1))))), ("Tree", ((0, ()), (1, ((1, 0, 1), (2, 2, 2))))))
        self.assertEqual(len(left), 4000)
        self.assertEqual(measured((deep, ()), depth, 1, left), 8 * (2 ** 1333 - 1))
        self.assertEqual(measured((deep, ()), depth, 2, right), 8 * (2 ** 1333 - 1))
        self.assertEqual(measured((deep, ()), depth, 2, left), 8)
        self.assertLess(time.monotonic() - begun, 30)

    def test_words_up_to_four_thousand(self):
        self.assertEqual(measured(JOIN, (LENGTH,), 1, row_words([1] * 1999)), 1999)
        deep = ((("Nat", (("Zero", ()), ("Succ", ("Nat",)))),), ())
        size = (("Nat", ((1, ()), (1, ((0, 1, 1),)))),)
        self.assertEqual(measured(deep, size, 1, ("Succ",) * 3999 + ("Zero",)), 4000)
        self.assert_raises(errors.BadArgs, measured, deep, size, 1, ("Succ",) * 4000 + ("Zero",))
        self.assert_raises(errors.BadArgs, measured, JOIN, (LENGTH,), 1, row_words([1] * 2000))

    def test_bounds_of_integers(self):
        for times in (MOST, -MOST):
            self.assertEqual(measured(CORE, (row_measure((1, 1, times), const=times),), 1, row_words([1, 1])), times + times * times)


class NeverTest(MeasureCase):
    def test_greatest_lots(self):
        up = row_measure((1, 1, 1))
        for measures, lot in (
            ((), ()), ((up,), (1,)), ((row_measure((1, 1, -1)),), ()), ((row_measure(const=-1),), ()),
            ((("Row", ((-1, ()), (0, ()))),), ()), ((("Row", ((0, ()), (0, ()))),), (1,)),
            # The number 0 is never in it, so neither is what needs it.
            ((row_measure((0, 0, 1)),), ()), ((row_measure((0, 0, 1)), row_measure((1, 1, 1)), row_measure((1, 3, 1))), (3,)),
            # Two that need each other are in it together, or out of it together.
            ((row_measure((1, 2, 1)), row_measure((1, 1, 1))), (1, 2)),
            ((row_measure((1, 2, 1)), row_measure((1, 1, 1), const=-1)), ()),
            ((row_measure((1, 2, 1)), row_measure((1, 3, 1)), row_measure((1, 4, 1)), row_measure((1, 4, -1))), ()),
            ((LENGTH, PAIRS), (1, 2)), ((("Box", ((5, ()),)), up[:0] + row_measure((1, 2, 3))), (1, 2)),
            ((LENGTH,) * 12, tuple(range(1, 13))),
        ):
            self.assertEqual(never_below(CORE, measures), lot, measures)
        self.assertEqual(never_below(core=CORE, measures=(LENGTH,)), (1,))

    def test_the_lot_of_drawn_measures_is_the_greatest(self):
        sizes = {}
        for seed in range(300):
            drawer = Drawer(seed)
            measures = drawer.measures(many=drawer.random.randint(1, 5))
            lots = [lot for lot in range(2 ** len(measures)) if self.stands(measures, lot)]
            told = tuple(number + 1 for number in range(len(measures)) if max(lots) >> number & 1)
            self.assertEqual(never_below((MADE_KINDS, ()), measures), told)
            self.assertTrue(all(lot & max(lots) == lot for lot in lots))
            sizes[len(told)] = sizes.get(len(told), 0) + 1
            for number in told:
                for _ in range(4):
                    self.assertGreaterEqual(
                        measured((MADE_KINDS, ()), measures, number, drawer.maker.value(measures[number - 1][0])), 0)
        self.assertGreater(min(sizes[many] for many in range(4)), 5, sizes)

    def stands(self, measures, lot):
        """Whether a lot, told by bits, is one in which each measure has only what it may have."""
        for number, (_, rows) in enumerate(measures):
            for const, terms in rows:
                if lot >> number & 1 and (const < 0 or any(
                        times < 0 or inner == 0 or not lot >> (inner - 1) & 1 for _, inner, times in terms)):
                    return False
        return True


class ErrorsTest(MeasureCase):
    def test_measures(self):
        for wrong in BAD_MEASURES:
            self.assert_raises(errors.BadMeasures, never_below, CORE, wrong)
            self.assert_raises(errors.BadMeasures, measured, CORE, wrong, None, None)
        self.assertEqual(never_below(CORE, (LENGTH,) * 12)[-1], 12)

    def test_parts_of_measures_put_otherwise(self):
        for place in places_of((LENGTH, PAIRS)):
            for other in (None, True, "x", [], (), (1,), MOST + 1):
                changed = with_part((LENGTH, PAIRS), place, other)
                try:
                    never_below(CORE, changed)
                except errors.BadMeasures:
                    continue
                # Measures without any, and rows without terms, are right as well.
                self.assertEqual(other, (), changed)

    def test_numbers(self):
        for wrong in STRANGE + (2, -1, 10 ** 9, "1", (1,)):
            self.assert_raises(errors.BadNumber, measured, CORE, (LENGTH,), wrong, None)
        self.assert_raises(errors.BadNumber, measured, CORE, (), 1, row_words([]))

    def test_words(self):
        for wrong in STRANGE + (("Cons", 5), ("Cons", "Nil", 5), ("Nil", "Nil"), ["Nil"], ("nil",), ("Box", 5), (5,), ("Nil", 5),
                                ("Cons", True, "Nil"), ("Cons", None, "Nil"), ("Cons", 5, "Leaf"), ("Cons", 5, ("Nil",)), "Nil"):
            self.assert_raises(errors.BadArgs, measured, CORE, (LENGTH,), 1, wrong)
        for wrong in STRANGE + (("Nil",), (1, 2), (True,), [1], 1, ((1,),)):
            if repr(wrong) != "(1,)":
                self.assert_raises(errors.BadArgs, measured, CORE, (LENGTH,), 0, wrong)

    def test_the_first_wrong_argument_tells_the_error(self):
        self.assert_raises(errors.BadCore, measured, None, None, None, None)
        self.assert_raises(errors.BadCore, never_below, ((ROW, ROW), ()), None)
        self.assert_raises(errors.BadMeasures, measured, CORE, None, None, None)
        self.assert_raises(errors.BadNumber, measured, CORE, (LENGTH,), 2, None)
        self.assert_raises(errors.BadArgs, measured, CORE, (LENGTH,), 1, None)


if __name__ == "__main__":
    unittest.main()
