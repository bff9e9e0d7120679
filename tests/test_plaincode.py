"""[24], the last words of [25], [17] where it speaks of the plain price, and the section juststeps/plaincode.py."""

import unittest

from juststeps import errors
from juststeps.images import fits, is_image
from juststeps.lowering import lowered
from juststeps.machine import run_image, trace_image
from juststeps.plain import run_plain, run_priced
from juststeps.plaincode import plain_code, plain_table
from juststeps.programs import is_program, read_program
from juststeps.rewrites import improve
from tests.helper import JOIN, STRANGE, Maker, core_of, price_of, row_words
from tests.machines import SUM_CORE

SIX = ("Six", (("None", ()), ("Five", ("whole", "whole", "Six", "whole", "Six")), ("One", ("Six",))))


def frame_of(function):
    """One more than the greatest variable."""
    found = [len(function[1]) - 1]
    for row in function[3]:
        if row[0] == "match":
            found += [variable for branch in row[2] for variable in branch[1]]
        elif row[0] not in ("less", "give", "go"):
            found.append(row[1])
    return max(found) + 1


def tops(core):
    """Prices without steps and words: the top of each event row, and what a call holds."""
    prices = []
    for function in core[1]:
        frame, words = frame_of(function), {"call": 1}
        prices.append(tuple(
            (0, 0, frame + words.get(row[0], 0), (frame + 1) * words.get(row[0], 0))
            if row[0] in ("less", "match", "call", "give", "go") else None for row in function[3]))
    return tuple(prices)


def words_made(core, bill):
    rows = [(core[1][place][3][row], times) for place, row, times in bill]
    return sum(times * (1 + len(row[3])) for row, times in rows if row[0] == "make")


class TableTest(unittest.TestCase):
    def test_the_example(self):
        self.assertEqual(plain_table(core=SUM_CORE), ((3, ((3, 0, 0), (3, 0, 0), (4, 0, 0), (4, 0, 0))),))
        self.assertEqual(plain_table(JOIN), ((3, ((3, 0, 0), (3, 0, 0), (3, 1, 0), (8, 0, 3), (3, 0, 0))),))
        self.assertEqual(plain_table(((), ())), ())

    def test_each_row(self):
        rows = (("num", 2, 1), ("add", 3, 0, 2), ("sub", 4, 0, 2), ("times", 5, 0, 2), ("make", 6, "None", ()),
                ("make", 7, "One", (6,)), ("make", 8, "Five", (2, 2, 6, 3, 7)), ("call", 9, "none", ()),
                ("call", 10, "six", (0, 2, 3, 4, 5, 9)), ("less", 0, 2, 11), ("go", "none", ()),
                ("match", 8, (("None", (), 12), ("Five", (20, 21, 22, 23, 24), 13), ("One", (25,), 14))),
                ("give", 3), ("go", "six", (2,) * 6), ("go", "one", (2,)))
        none = ("none", (), "whole", (("num", 399, 1), ("give", 399)))
        six = ("six", ("whole",) * 6, "whole", (("give", 5),))
        one = ("one", ("whole",), "whole", (("give", 0),))
        core = core_of(rows, ("whole", "whole"), kinds=(SIX,), more=(none, six, one))
        self.assertEqual(plain_table(core), (
            (3, ((2, 0, 0), (4, 0, 0), (4, 0, 0), (3, 0, 0), (4, 0, 1), (6, 0, 2), (14, 0, 6), (1, 1, 0), (7, 1, 0),
                 (3, 0, 0), (2, 0, 0), (3, 0, 0), (3, 0, 0), (8, 0, 0), (3, 0, 0))),
            (1, ((2, 0, 0), (3, 0, 0))), (7, ((3, 0, 0),)), (2, ((3, 0, 0),))))
        image = plain_code(core)
        self.assertTrue(is_image(image) and fits(core, image))

    def test_errors(self):
        for thing in STRANGE:
            with self.assertRaises(errors.BadCore):
                plain_code(thing)
            with self.assertRaises(errors.BadCore):
                plain_table(thing)


class RunTest(unittest.TestCase):
    def assert_run(self, core, name, args):
        """The machine's run has the value, the steps, the words and the top that are told; True if it ends."""
        end, value, bill = run_plain(core, name, args, 500)
        if end == "spent":
            return False
        top = run_priced(core, tops(core), name, args, 500)[4]
        image = plain_code(core)
        wanted = ("ended", value, price_of(core, bill), words_made(core, bill), top)
        self.assertEqual(run_image(core, image, name, args, 10 ** 5), wanted, (core, name, args))
        self.assertEqual(run_image(core, image, name, args, wanted[2] - 1)[:3], ("spent", None, wanted[2] - 1))
        return True

    def test_the_example(self):
        image = plain_code(core=SUM_CORE)
        for n in range(7):
            given = (row_words(range(n)), (4,))
            self.assertEqual(run_image(SUM_CORE, image, "sum", given, 500),
                             ("ended", (4 + sum(range(n)),), 18 * n + 9, 0, 5))

    def test_each_kind_of_row(self):
        # Of each row a run that passes it; the frame's words, and three instructions of the give, are the last part.
        none = ("none", (), "whole", (("num", 399, 1), ("give", 399)))
        one = ("one", ("whole",), "whole", (("give", 0),))
        match = lambda at: ("match", 2, (("None", (), at), ("Five", (3, 4, 5, 6, 7), at + 1), ("One", (8,), at + 2)))
        made = (("make", 1, "None", ()), ("make", 2, "One", (1,)))
        five = (("make", 1, "None", ()), ("make", 2, "Five", (0, 0, 1, 0, 1)))
        give = (("give", 0),)
        for rows, steps, words, top in (
            (give, 0, 0, 1), ((("num", 5, 1),) + give, 2, 0, 6), ((("add", 1, 0, 0),) + give, 4, 0, 2),
            ((("sub", 1, 0, 0),) + give, 4, 0, 2), ((("times", 1, 0, -3),) + give, 3, 0, 2),
            (made[:1] + give, 4, 1, 2), (made + give, 4 + 6, 3, 3), (five + give, 4 + 14, 7, 3),
            ((("call", 1, "one", (0,)),) + give, 2 + 1 + (2 + 3), 0, 2 + 1 + 1),
            ((("call", 1, "none", ()),) + give, 1 + 1 + (1 + 2 + 3), 0, 2 + 1 + 400),
            ((("less", 0, 0, 2),) + give * 2, 3, 0, 1),
            (made + (match(3),) + give * 3, 10 + 3 + 2, 3, 9), (five + (match(3),) + give * 3, 18 + 3 + 10, 7, 9),
        ):
            core = core_of(rows, ("whole",), kinds=(SIX,), more=(none, one))
            self.assertEqual(run_image(core, plain_code(core), "f", ((4,),), 500),
                             ("ended", (4,), 2 + steps + 3, words, top), rows)
        for args in ((), (0,), (0,) * 6):
            core = core_of((("go", "g", args),), ("whole",), more=(
                ("g", ("whole",) * len(args), "whole", (("num", 9, 1), ("give", 9))),))
            self.assertEqual(run_image(core, plain_code(core), "f", ((4,),), 500),
                             ("ended", (1,), 2 + (2 + len(args)) + (1 + len(args)) + 2 + 3, 0, 10))

    def test_a_function_without_variables(self):
        core = core_of((("go", "f", ()),))
        self.assertEqual(run_image(core, plain_code(core), "f", (), 100), ("spent", None, 100, 0, 0))
        self.assertEqual(trace_image(core, plain_code(core), "f", (), 7), (0, 1, 2, 0, 1, 2, 0))

    def test_the_greatest_variable(self):
        core = core_of((("num", 399, 5), ("add", 0, 399, 399), ("give", 0)))
        self.assertEqual(run_image(core, plain_code(core), "f", (), 100), ("ended", (10,), 10, 0, 400))

    def test_made_cores(self):
        ended = 0
        for seed in range(250):
            maker = Maker(seed)
            program = maker.program()
            if not is_program(program):
                continue
            core = lowered(program)
            for name, params, _, _ in core[1] * 2:
                args = tuple(maker.value(kind) for kind in params)
                ended += self.assert_run(core, name, args)
                ended += self.assert_run(improve(core, 400)[0], name, args)
        self.assertGreater(ended, 500)

    def test_a_core_of_full_size(self):
        rows = (("make", 0, "None", ()), ("num", 1, 1)) + tuple(
            ("make", at, "Five", (1, 1, 0, 1, at - 1 if at > 2 else 0)) for at in range(2, 239)) + (("give", 0),)
        core = ((SIX,), tuple((f"f{at}", (), "Six", rows) for at in range(12)))
        image = plain_code(core)
        self.assertTrue(is_image(image))
        self.assertEqual(run_image(core, image, "f11", (), 10 ** 4), ("ended", ("None",), 1 + 4 + 2 + 237 * 14 + 3,
                                                                       1 + 237 * 6, 239))


class PlainPriceTest(unittest.TestCase):
    def test_no_step_makes_the_run_of_the_plain_code_longer(self):
        text = ("kind List { Nil ( ) Cons ( whole , List ) } def sum ( List r , whole s ) : whole { match r { "
                "Nil ( ) { give s } Cons ( x , xs ) { let y = ( 2 * 3 ) ; let z = ( 2 * 3 ) ; "
                "give sum ( xs , ( s + ( x + ( y - z ) ) ) ) } } }")
        core = lowered(read_program(text))
        for most in range(8):
            other, log = improve(core, most)
            steps = [run_image(each, plain_code(each), "sum", (row_words(range(4)), (0,)), 5000) for each in (core, other)]
            self.assertEqual([each[:2] for each in steps], [("ended", (6,))] * 2)
            self.assertGreater(steps[0][2], steps[1][2] - (not log))


if __name__ == "__main__":
    unittest.main()
