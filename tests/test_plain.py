"""[13] to [15] and the interface's section juststeps/plain.py."""

import unittest

from juststeps import errors
from juststeps.cores import is_core
from juststeps.lowering import lowered
from juststeps.plain import is_value, passed, run_plain, run_priced
from juststeps.programs import read_program
from tests.helper import BOX, JOIN, JOIN_PRICES, ROW, STRANGE, core_of, nested, row_words

TREE = ("Tree", (("Leaf", ()), ("Node", ("Tree", "whole", "Tree"))))
VALUES = ((ROW, BOX, TREE), ())
# A run of it never ends, and each call within is open for ever.
DEEP = core_of((("num", 1, 1), ("add", 2, 0, 1), ("call", 3, "f", (2,)), ("give", 3)), ("whole",))
# Counts down to 0 by go, and down to 0 by call.
DOWN = lowered(read_program(
    "def down ( whole n ) : whole { if 0 < n { give deep ( n , down ( ( n - 1 ) ) ) } else { give n } } "
    "def deep ( whole a , whole b ) : whole { give ( a + b ) }"))
LOOP = core_of((("num", 1, 0), ("less", 1, 0, 5), ("num", 2, 1), ("sub", 3, 0, 2), ("go", "f", (3,)), ("give", 0)),
               ("whole",))


def unpriced(core):
    return tuple(tuple(None for _ in function[3]) for function in core[1])


def with_prices(core, prices):
    """Prices of a core with one function: by rows, None at the others."""
    return (tuple(prices.get(row) for row in range(len(core[1][0][3]))),)


class IsValueTest(unittest.TestCase):
    def test_values(self):
        for kind, words in (
            ("whole", (0,)), ("whole", (-10 ** 5000,)), ("Row", ("Nil",)), ("Row", ("Cons", 3, "Cons", 4, "Nil")),
            ("Box", ("Box", 7)), ("Tree", ("Leaf",)), ("Tree", ("Node", "Leaf", 1, "Leaf")),
            ("Tree", ("Node", "Node", "Leaf", 1, "Leaf", 2, "Node", "Leaf", 3, "Leaf")),
        ):
            self.assertIs(is_value(VALUES, kind, words), True)
            self.assertIs(is_value(VALUES, kind, list(words)), False)
            self.assertIs(is_value(VALUES, kind, words + (1,)), False)
            self.assertIs(is_value(VALUES, kind, words + words[-1:]), False)
            self.assertIs(is_value(VALUES, kind, words[:-1]), False)

    def test_no_values(self):
        for kind, words in (
            ("whole", (True,)), ("whole", ("Nil",)), ("whole", ("0",)), ("whole", ((0,),)), ("whole", 0),
            ("Row", ("Leaf",)), ("Row", (0,)), ("Row", ("Cons", "Nil")), ("Row", ("Cons", "Nil", 3)),
            ("Row", ("Cons", 3, "Leaf")), ("Row", ("Cons", True, "Nil")), ("Row", ("Row",)), ("Row", "Nil"),
            ("Row", (("Nil",),)), ("Row", ("Cons", (3,), ("Nil",))), ("Row", (None,)), ("Row", ([],)), ("Row", ()),
            ("Box", ("Box", "Box", 1)), ("Box", ("Box",)), ("Tree", ("Node", "Leaf", "Leaf", "Leaf")),
        ):
            self.assertIs(is_value(VALUES, kind, words), False, words)

    def test_any_object(self):
        for thing in STRANGE + (nested(80), (nested(79),)):
            for kind in ("whole", "Row"):
                if thing == (1,) and kind == "whole":
                    continue
                self.assertIs(is_value(VALUES, kind, thing), False)

    def test_at_most_four_hundred_words(self):
        self.assertTrue(is_value(VALUES, "Row", row_words(range(199))))
        self.assertEqual(len(row_words(range(199))), 399)
        for kind, words, many, right in (
            ("Tree", ("Node", "Leaf", 1) * 133 + ("Leaf",), 400, True),
            ("Row", row_words(range(200)), 401, False),
        ):
            self.assertEqual(len(words), many)
            self.assertIs(is_value(VALUES, kind, words), right)

    def test_errors(self):
        for thing in STRANGE:
            with self.assertRaises(errors.BadCore):
                is_value(thing, "Pair", ())
            with self.assertRaises(errors.BadKind):
                is_value(VALUES, thing, ())
        for kind in ("Pair", "Nil", "Whole", "row", ["Row"], ("Row",)):
            with self.assertRaises(errors.BadKind):
                is_value(VALUES, kind, (0,))
        self.assertIs(is_value(core=((), ()), kind="whole", thing=(1,)), True)


class RunTest(unittest.TestCase):
    def test_join(self):
        given = (row_words((1, 2)), row_words((3,)))
        self.assertEqual(run_plain(core=JOIN, name="join", args=given, limit=10), (
            "ended", row_words((1, 2, 3)), ((0, 0, 3), (0, 1, 1), (0, 2, 2), (0, 3, 2), (0, 4, 2))))
        self.assertEqual(passed(core=JOIN, name="join", args=given, limit=10), (
            (0, 0), (0, 2), (0, 0), (0, 2), (0, 0), (0, 1), (0, 4), (0, 4)))

    def test_a_limit_is_just_enough_or_not(self):
        given = (row_words((1, 2)), row_words((3,)))
        self.assertEqual(run_plain(JOIN, "join", given, 10)[0], "ended")
        self.assertEqual(run_plain(JOIN, "join", given, 9), (
            "spent", None, ((0, 0, 3), (0, 1, 1), (0, 2, 2), (0, 3, 2), (0, 4, 1))))
        self.assertEqual(passed(JOIN, "join", given, 9), (
            (0, 0), (0, 2), (0, 0), (0, 2), (0, 0), (0, 1), (0, 4)))
        self.assertEqual(run_plain(JOIN, "join", given, 2), ("spent", None, ((0, 0, 1), (0, 2, 1))))
        self.assertEqual(run_plain(JOIN, "join", given, 0), ("spent", None, ()))
        self.assertEqual(passed(JOIN, "join", given, 0), ())

    def test_rows(self):
        rows = (("num", 2, 7), ("add", 3, 0, 2), ("sub", 4, 0, 2), ("times", 5, 4, -3), ("make", 6, "Cons", (5, 1)),
                ("make", 7, "Cons", (3, 6)), ("give", 7))
        core = core_of(rows, ("whole", "Row"), "Row")
        self.assertEqual(run_plain(core, "f", ((10,), ("Nil",)), 7), (
            "ended", ("Cons", 17, "Cons", -9, "Nil"), tuple((0, row, 1) for row in range(7))))

    def test_less(self):
        core = core_of((("less", 0, 1, 2), ("give", 0), ("give", 1)), ("whole", "whole"))
        for a, b, row in ((1, 2, 1), (2, 2, 2), (3, 2, 2), (-10 ** 40, -10 ** 39, 1)):
            self.assertEqual(run_plain(core, "f", ((a,), (b,)), 9), (
                "ended", (min(a, b),), ((0, 0, 1), (0, row, 1))))

    def test_match(self):
        rows = (("match", 0, (("Leaf", (), 1), ("Node", (1, 2, 3), 3))), ("num", 4, -1), ("give", 4),
                ("match", 3, (("Leaf", (), 4), ("Node", (5, 6, 7), 5))), ("give", 2), ("add", 8, 2, 6), ("give", 8))
        core = core_of(rows, ("Tree",), kinds=(TREE,))
        for words, wanted in ((("Leaf",), -1), (("Node", "Leaf", 5, "Leaf"), 5),
                              (("Node", "Node", "Leaf", 1, "Leaf", 5, "Node", "Leaf", 3, "Leaf"), 8)):
            self.assertEqual(run_plain(core, "f", (words,), 9)[:2], ("ended", (wanted,)))

    def test_calls_keep_the_variables_of_their_caller(self):
        core = core_of((("num", 1, 5), ("call", 2, "g", (1, 0)), ("sub", 3, 2, 1), ("call", 4, "g", (3, 0)),
                        ("give", 4)), ("whole",), more=(("g", ("whole", "whole"), "whole", (
                            ("sub", 2, 0, 1), ("times", 3, 2, 2), ("give", 3))),))
        self.assertEqual(run_plain(core, "f", ((1,),), 99), ("ended", (4,), (
            (0, 0, 1), (0, 1, 1), (0, 2, 1), (0, 3, 1), (0, 4, 1), (1, 0, 2), (1, 1, 2), (1, 2, 2))))
        self.assertEqual(passed(core, "f", ((1,),), 99), ((0, 1), (1, 2), (0, 3), (1, 2), (0, 4)))
        self.assertEqual(run_plain(core, "g", ((1,), (2,)), 99)[1:], ((-2,), ((1, 0, 1), (1, 1, 1), (1, 2, 1))))

    def test_go_gives_what_the_other_gives(self):
        self.assertEqual(run_plain(LOOP, "f", ((3,),), 99)[:2], ("ended", (0,)))
        self.assertEqual(passed(LOOP, "f", ((1,),), 99), ((0, 1), (0, 4), (0, 1), (0, 5)))
        core = core_of((("call", 1, "g", (0,)), ("add", 2, 1, 1), ("give", 2)), ("whole",), more=(
            ("g", ("whole",), "whole", (("go", "h", (0, 0)),)),
            ("h", ("whole", "whole"), "whole", (("add", 2, 0, 1), ("give", 2)))))
        self.assertEqual(run_plain(core, "f", ((4,),), 99)[:2], ("ended", (16,)))
        self.assertEqual(passed(core, "f", ((4,),), 99), ((0, 0), (1, 0), (2, 1), (0, 2)))

    def test_a_function_without_params(self):
        core = core_of((("num", 0, 5), ("give", 0)))
        self.assertEqual(run_plain(core, "f", (), 2), ("ended", (5,), ((0, 0, 1), (0, 1, 1))))
        self.assertEqual(run_plain(core, "f", (), 1), ("spent", None, ((0, 0, 1),)))

    def test_integers_of_any_size(self):
        rows = tuple(("times", at + 1, at, 10 ** 6) for at in range(239)) + (("give", 239),)
        self.assertEqual(run_plain(core_of(rows, ("whole",)), "f", ((3,),), 240)[1], (3 * 10 ** (6 * 239),))
        end, value, _ = run_plain(core_of((("give", 0),), ("whole",)), "f", ((7 ** 9999,),), 1)
        self.assertTrue(end == "ended" and value == (7 ** 9999,))

    def test_long_runs(self):
        self.assertEqual(run_plain(DEEP, "f", ((0,),), 20000), (
            "spent", None, ((0, 0, 6667), (0, 1, 6667), (0, 2, 6666))))
        self.assertEqual(passed(DEEP, "f", ((0,),), 20000), ((0, 2),) * 6666)
        open_calls = core_of((("call", 0, "f", ()), ("give", 0)))
        self.assertEqual(run_plain(open_calls, "f", (), 20000), ("spent", None, ((0, 0, 20000),)))
        going = core_of((("go", "f", ()),))
        self.assertEqual(run_plain(going, "f", (), 20000), ("spent", None, ((0, 0, 20000),)))
        self.assertEqual(run_plain(LOOP, "f", ((3999,),), 20000)[:2], ("ended", (0,)))
        self.assertEqual(run_plain(LOOP, "f", ((4000,),), 20000)[0], "spent")
        # Ends with open calls as deep as the limit lets: 9 rows for each n and 3 at the end.
        self.assertEqual(run_plain(DOWN, "down", ((2200,),), 20000)[:2], ("ended", (2200 * 2201 // 2,)))

    def test_equal_calls_return_equal_results(self):
        given = (row_words((1, 2)), row_words((3,)))
        self.assertEqual(run_plain(JOIN, "join", given, 10), run_plain(JOIN, "join", given, 10))


class ToldTest(unittest.TestCase):
    """Values of more than 4,000 words are told as None."""

    def pair_core(self):
        """Makes a row of n entries ahead of another row."""
        text = ("kind Row { Nil ( ) Cons ( whole , Row ) } def many ( whole n , Row r ) : Row { if 0 < n { "
                "let m = ( n - 1 ) ; give many ( m , Cons ( n , r ) ) } else { give r } }")
        return lowered(read_program(text))

    def test_at_the_bound(self):
        core = self.pair_core()
        end, value, _ = run_plain(core, "many", ((1999,), ("Nil",)), 20000)
        self.assertEqual((end, len(value)), ("ended", 3999))
        end, value, bill = run_plain(core, "many", ((2000,), ("Nil",)), 20000)
        self.assertEqual((end, value), ("ended", None))
        self.assertTrue(bill)

    def test_four_thousand_words_and_one_more(self):
        kinds = (("Row", (("Nil", ()), ("Cons", ("whole", "Row")), ("Odd", ("Row",)))),)
        rows = (("num", 2, 0), ("less", 2, 0, 6), ("num", 3, 1), ("sub", 4, 0, 3), ("make", 5, "Cons", (0, 1)),
                ("go", "f", (4, 5)), ("give", 1))
        core = core_of(rows, ("whole", "Row"), "Row", kinds)
        for n, start, many in ((1999, ("Odd", "Nil"), 4000), (1999, ("Odd", "Odd", "Nil"), 4001),
                               (1998, ("Odd", "Odd", "Nil"), 3999)):
            value = run_plain(core, "f", ((n,), start), 20000)[1]
            if many > 4000:
                self.assertIsNone(value)
                self.assertEqual(run_priced(core, unpriced(core), "f", ((n,), start), 20000)[:2], ("ended", None))
            else:
                self.assertEqual(len(value), many)
                self.assertEqual(run_priced(core, unpriced(core), "f", ((n,), start), 20000)[:2], ("ended", value))

    def test_values_whose_parts_are_shared(self):
        rows = tuple(("make", at + 2, "Node", (at + 1, 0, at + 1)) for at in range(200)) + (("give", 201),)
        core = core_of(rows, ("whole", "Tree"), "Tree", (TREE,))
        self.assertEqual(run_plain(core, "f", ((1,), ("Leaf",)), 999)[:2], ("ended", None))
        core = core_of(rows[:10] + (("give", 11),), ("whole", "Tree"), "Tree", (TREE,))
        self.assertEqual(len(run_plain(core, "f", ((1,), ("Leaf",)), 999)[1]), 3 * 1023 + 1)


class PricedTest(unittest.TestCase):
    def test_the_examples(self):
        given = (row_words((7, 8)), ("Nil",))
        self.assertEqual(run_priced(core=JOIN, prices=JOIN_PRICES, name="join", args=given, limit=99),
                         ("ended", row_words((7, 8)), 36, 6, 4))
        for n in (0, 1, 5, 20):
            given = (row_words(range(n)), row_words((1,)))
            self.assertEqual(run_priced(JOIN, JOIN_PRICES, "join", given, 999)[2:], (16 * n + 4, 3 * n, 2 * n))
        rows = (("match", 0, (("Nil", (), 1), ("Cons", (2, 3), 2))), ("give", 1), ("add", 4, 1, 2), ("go", "f", (3, 4)))
        core = core_of(rows, ("Row", "whole"), kinds=(ROW,))
        prices = (((6, 0, 5, 0), (3, 0, 5, 0), None, (12, 0, 5, 0)),)
        for n in (0, 1, 7):
            end, value, steps, words, top = run_priced(core, prices, "f", (row_words(range(n)), (0,)), 999)
            self.assertEqual((end, value, steps, words, top), ("ended", (sum(range(n)),), 18 * n + 9, 0, 5))

    def test_a_run_that_is_cut(self):
        given = (row_words((7, 8)), ("Nil",))
        for limit, wanted in ((0, (0, 0, 0)), (1, (2, 0, 0)), (2, (7, 0, 2)), (3, (9, 0, 2)), (4, (14, 0, 4)),
                              (5, (16, 0, 4)), (6, (18, 0, 4)), (7, (18, 0, 4)), (8, (27, 3, 4)), (9, (27, 3, 4))):
            self.assertEqual(run_priced(JOIN, JOIN_PRICES, "join", given, limit), ("spent", None) + wanted)

    def test_top_counts_open_calls_only(self):
        rows = (("call", 0, "g", ()), ("call", 1, "g", ()), ("give", 1))
        more = (("g", (), "whole", (("call", 0, "h", ()), ("give", 0))),
                ("h", (), "whole", (("num", 0, 1), ("give", 0))))
        core = core_of(rows, more=more)

        def top(first, second, give, inner, inner_give, last):
            prices = ((first, second, give), (inner, inner_give), (None, last))
            return run_priced(core, prices, "f", (), 99)[4]

        # A call's own row is not yet open as it is passed.
        self.assertEqual(top((0, 0, 0, 9), None, None, None, None, None), 0)
        # It is open up to and with the give that gives its value, and no longer.
        self.assertEqual(top((0, 0, 0, 9), None, None, (0, 0, 1, 0), None, None), 10)
        self.assertEqual(top((0, 0, 0, 9), None, None, None, (0, 0, 1, 0), None), 10)
        self.assertEqual(top((0, 0, 0, 9), (0, 0, 1, 0), None, None, None, None), 1)
        self.assertEqual(top((0, 0, 0, 9), None, (0, 0, 1, 0), None, None, None), 1)
        # Open calls are added up.
        self.assertEqual(top((0, 0, 0, 9), None, None, (0, 0, 0, 20), None, (0, 0, 1, 0)), 30)
        self.assertEqual(top((0, 0, 0, 9), (0, 0, 0, 8), None, (0, 0, 0, 20), (0, 0, 1, 0), (0, 0, 0, 0)), 29)
        self.assertEqual(top(None, (0, 0, 0, 8), None, None, None, (0, 0, 1, 0)), 9)
        # Rows without a price add nothing, and without priced rows there is no top.
        self.assertEqual(top(None, None, None, None, None, None), 0)
        self.assertEqual(top((0, 0, 0, 9), (0, 0, 0, 9), None, None, None, None), 9 * 0)

    def test_a_priced_row_that_tops_nothing_still_counts_what_is_held(self):
        core = core_of((("call", 0, "g", ()), ("give", 0)), more=(("g", (), "whole", (("num", 0, 1), ("give", 0))),))
        self.assertEqual(run_priced(core, (((1, 0, 0, 5), (1, 0, 0, 0)), (None, (1, 0, 0, 0))), "f", (), 9),
                         ("ended", (1,), 3, 0, 5))
        self.assertEqual(run_priced(core, (((1, 0, 0, 5), (1, 0, 0, 0)), (None, None)), "f", (), 9),
                         ("ended", (1,), 2, 0, 0))

    def test_a_go_opens_and_ends_nothing(self):
        rows = (("call", 0, "g", ()), ("give", 0))
        more = (("g", (), "whole", (("go", "h", ()),)), ("h", (), "whole", (("num", 0, 1), ("give", 0))))
        core = core_of(rows, more=more)
        held, top = (0, 0, 0, 9), (0, 0, 1, 0)
        self.assertEqual(run_priced(core, ((held, None), ((0, 0, 0, 50),), (None, top)), "f", (), 9)[4], 10)
        self.assertEqual(run_priced(core, ((held, top), ((0, 0, 0, 50),), (None, None)), "f", (), 9)[4], 9)
        self.assertEqual(run_priced(core, ((held, top), (None,), (None, None)), "f", (), 9)[4], 1)
        self.assertEqual(run_priced(core, ((None, None), ((0, 0, 0, 50),), (None, top)), "f", (), 9)[4], 1)

    def test_great_prices_are_added_up(self):
        great = 10 ** 9
        prices = with_prices(DEEP, {2: (great, great, great, great)})
        self.assertEqual(run_priced(DEEP, prices, "f", ((0,),), 20000),
                         ("spent", None, 6666 * great, 6666 * great, 6666 * great))


class ErrorsTest(unittest.TestCase):
    GIVEN = (("Nil",), ("Nil",))

    def calls(self, core=JOIN, prices=JOIN_PRICES, name="join", args=GIVEN, limit=9):
        """The three runs with these arguments."""
        return (lambda: run_plain(core, name, args, limit), lambda: passed(core, name, args, limit),
                lambda: run_priced(core, prices, name, args, limit))

    def assert_all(self, error, **given):
        for call in self.calls(**given):
            with self.assertRaises(error, msg=given):
                call()

    def test_each_error_and_of_two_wrong_ones_the_first(self):
        for thing in STRANGE:
            self.assert_all(errors.BadCore, core=thing, name="g", args=None, limit=-1)
            self.assert_all(errors.BadName, name=thing, args=None, limit=-1)
            self.assert_all(errors.BadArgs, args=thing, limit=-1)
            if thing != 7 or isinstance(thing, bool) or not isinstance(thing, int):
                self.assert_all(errors.BadLimit, limit=thing)
            with self.assertRaises(errors.BadPrices):
                run_priced(JOIN, thing, "g", None, -1)
            with self.assertRaises(errors.BadCore):
                run_priced(thing, None, "g", None, -1)

    def test_arguments(self):
        good = ("Nil",)
        long_row = row_words(range(200))
        for args in ((), (good,), (good, good, good), [good, good], (good, list(good)), (good, ("Leaf",)), (good, (0,)),
                     (good, ()), (good, ("Nil", "Nil")), (good, long_row), (long_row, good), ("Nil", "Nil"), good):
            self.assert_all(errors.BadArgs, args=args)
        self.assertEqual(run_plain(JOIN, "join", (good, row_words(range(199))), 99)[1], row_words(range(199)))

    def test_limits(self):
        for limit in (-1, 20001, True, False, "9", None, 10 ** 30):
            self.assert_all(errors.BadLimit, limit=limit)
        for limit in (0, 20000):
            for call in self.calls(limit=limit):
                call()

    def test_prices(self):
        def assert_prices(right, prices, core=JOIN):
            self.assertTrue(is_core(core))
            name, args = core[1][0][0], self.GIVEN
            if right:
                self.assertEqual(run_priced(core, prices, name, args, 9)[0], "ended")
                return
            with self.assertRaises(errors.BadPrices):
                run_priced(core, prices, name, args, 9)

        good = JOIN_PRICES[0]
        assert_prices(True, JOIN_PRICES)
        assert_prices(True, ((None,) * 5,))
        for prices in ((), (good, good), [good], (list(good),), (good[:-1],), (good + (None,),), good):
            assert_prices(False, prices)
        # A plain row has None; an event row may have None or a price.
        assert_prices(False, (good[:3] + ((0, 0, 0, 0),) + good[4:],))
        for price, right in (((0, 0, 0, 0), True), ((10 ** 9,) * 4, True), ((0, 0, 0), False), ((0,) * 5, False),
                             ([0, 0, 0, 0], False), (0, False), ((), False), (False, False)):
            assert_prices(right, ((price,) + good[1:],))
        for at in range(4):
            for part in (-1, 10 ** 9 + 1, True, "0", None):
                price = (0,) * at + (part,) + (0,) * (3 - at)
                for row in (0, 1, 2, 4):
                    assert_prices(False, (good[:row] + (price,) + good[row + 1:],))


if __name__ == "__main__":
    unittest.main()
