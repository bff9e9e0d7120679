"""[21] to [23] and the interface's section juststeps/machine.py."""

import time
import unittest
from random import Random

from juststeps import errors
from juststeps.machine import run_image, trace_image
from tests.helper import BOX, JOIN, MADE_KINDS, ROW, STRANGE, Maker, core_of, row_words
from tests.machines import JOIN_IMAGE, SUM_CORE, SUM_IMAGE, Second, made_image

GIVE = (("num", 90, 1), ("give", 90))
GIVEN = (("Cons", 5, "Cons", 7, "Nil"), (1,))
TREE = ("Tree", (("Leaf", ()), ("Node", ("Tree", "whole", "Tree"))))


def whole_core(params=(), more=()):
    """A core of a function f that gives an integer, and of others that do."""
    heads = [("f", params)] + [(name, ()) for name in more]
    return (ROW, BOX, TREE), tuple((name, kinds, "whole", GIVE) for name, kinds in heads)


def result_core(kind, params=()):
    """A core of a function f that gives a thing of the kind."""
    return (ROW, BOX, TREE), (("f", params, kind, (("go", "f", tuple(range(len(params)))),)),)


def run(*code, params=(), args=(), limit=1000, core=None, starts=(("f", 0),)):
    return run_image(core or whole_core(params), (starts, code), "f", args, limit)


class EachInstructionTest(unittest.TestCase):
    def gives(self, number, *code, params=("whole", "whole"), args=((7,), (-2,))):
        """The run ends with this number in register 0 behind all instructions and a return."""
        self.assertEqual(run(*code, ("return",), params=params, args=args), (
            "ended", (number,), len(code) + 1, sum(each[2] for each in code if each[0] == "new"), self.top(code)))

    def top(self, code):
        height, top = 0, 0
        for word, *parts in code:
            height += {"push": 1, "drop": -1}.get(word, 0) * (parts or [0])[0] if word in ("push", "drop") else 0
            top = max(top, height)
        return top

    def test_numbers(self):
        self.gives(7)
        self.gives(10 ** 12, ("set", 0, 10 ** 12))
        self.gives(-2, ("copy", 0, 1))
        self.gives(5, ("add", 0, 0, 1))
        self.gives(9, ("sub", 0, 0, 1))
        self.gives(-9, ("sub", 0, 1, 0))
        self.gives(6, ("times", 0, 1, -3))
        self.gives(0, ("copy", 0, 7))
        self.gives(7 * 10 ** 60, *[("times", 0, 0, 10 ** 6)] * 10)

    def test_heap(self):
        self.gives(0, ("new", 0, 3))
        self.gives(3, ("new", 0, 3), ("new", 0, 1))
        self.gives(0, ("new", 0, 2), ("take", 0, 0, 1))
        self.gives(-2, ("new", 0, 2), ("put", 0, 1, 1), ("take", 0, 0, 1))
        self.gives(-2, ("new", 0, 64), ("put", 0, 63, 1), ("set", 2, 60), ("take", 0, 2, 3))
        self.gives(-2, ("new", 0, 5), ("put", 1, 3, 1), ("take", 0, 0, 1), params=("whole",) * 2, args=((7,), (-2,)))

    def test_a_sum_below_nought_is_no_index(self):
        for code, steps in (
            ((("set", 1, -1), ("new", 0, 4), ("take", 0, 1, 0)), 2),
            ((("set", 1, -1), ("new", 0, 4), ("put", 1, 0, 0)), 2),
            ((("set", 1, -5), ("new", 0, 4), ("take", 0, 1, 0)), 2),
            ((("new", 0, 4), ("take", 0, 0, 4)), 1),
            ((("new", 0, 4), ("put", 0, 4, 0)), 1),
            ((("take", 0, 0, 0),), 0),
            ((("put", 0, 0, 0),), 0),
        ):
            self.assertEqual(run(*code, ("return",)), ("fault", None, steps, 4 * (len(code) > 1), 0))
        self.assertEqual(run(("set", 1, -1), ("new", 0, 4), ("take", 0, 1, 1), ("return",))[:2], ("ended", (0,)))
        self.assertEqual(run(("new", 0, 4), ("take", 0, 0, 3), ("return",))[:2], ("ended", (0,)))

    def test_stack(self):
        self.gives(0, ("push", 3), ("load", 0, 2), ("drop", 3))
        self.gives(-2, ("push", 3), ("save", 1, 1), ("load", 0, 1), ("drop", 3))
        self.gives(0, ("push", 3), ("save", 1, 1), ("load", 0, 0), ("drop", 3))
        self.gives(0, ("push", 3), ("save", 1, 1), ("load", 0, 2), ("drop", 3))
        self.gives(-2, ("push", 1), ("save", 0, 1), ("push", 2), ("load", 0, 2), ("drop", 3))
        self.gives(-2, ("push", 400), ("save", 399, 1), ("push", 0), ("drop", 0), ("load", 0, 399), ("drop", 400))
        # What is put on the stack anew is 0, whatever stood there.
        self.gives(0, ("push", 2), ("save", 0, 1), ("save", 1, 1), ("drop", 2), ("push", 2), ("load", 0, 1),
                   ("drop", 1), ("load", 0, 0), ("drop", 1))
        written = [("save", i, 1) for i in range(3)]
        for i in range(3):
            self.gives(0, ("push", 3), *written, ("drop", 3), ("push", 3), ("load", 0, i), ("drop", 3))
            self.gives(-2 if i == 2 else 0, ("push", 3), *written, ("drop", 2), ("push", 2), ("load", 0, i), ("drop", 3))
        self.gives(-2, ("push", 1), ("save", 0, 1), ("push", 1), ("save", 0, 0), ("drop", 1), ("load", 0, 0),
                   ("drop", 1))

    def test_words_that_the_stack_does_not_have(self):
        for code, steps, top in (
            ((("load", 0, 0),), 0, 0), ((("save", 0, 0),), 0, 0), ((("drop", 1),), 0, 0),
            ((("push", 2), ("load", 0, 2)), 1, 2), ((("push", 2), ("save", 2, 0)), 1, 2),
            ((("push", 2), ("drop", 3)), 1, 2), ((("push", 2), ("drop", 1), ("load", 0, 1)), 2, 2),
        ):
            self.assertEqual(run(*code, ("return",)), ("fault", None, steps, 0, top), code)
        self.assertEqual(run(("drop", 0), ("return",))[0], "ended")

    def test_less_and_jump(self):
        for low, high, number in ((1, 2, 10), (2, 2, 20), (3, 2, 20), (-10 ** 12, 10 ** 12, 10)):
            self.assertEqual(run(("set", 1, low), ("set", 2, high), ("less", 1, 2, 5), ("set", 0, 10), ("jump", 6),
                                 ("set", 0, 20), ("return",))[:2], ("ended", (number,)))

    def test_table(self):
        code = (("table", 0, (2, 4, 2)), ("return",), ("set", 0, 20), ("return",), ("set", 0, 40), ("return",))
        for index, found in ((0, (20,)), (1, (40,)), (2, (20,)), (3, None), (-1, None), (-3, None), (10 ** 30, None)):
            result = run(*code, params=("whole",), args=((index,),))
            self.assertEqual(result[:3], ("fault", None, 0) if found is None else ("ended", found, 3))

    def test_call_go_and_return(self):
        core = whole_core(more=("g",))
        starts = (("f", 0), ("g", 4))
        self.assertEqual(run(("push", 1), ("call", "g"), ("drop", 1), ("return",), ("set", 0, 9), ("load", 1, 0),
                             ("add", 0, 0, 1), ("return",), core=core, starts=starts), ("ended", (11,), 8, 0, 2))
        self.assertEqual(run(("push", 1), ("go", "g"), ("drop", 1), ("return",), ("set", 0, 9), ("load", 1, 0),
                             ("drop", 1), ("return",), core=core, starts=starts), ("ended", (9,), 6, 0, 1))
        # A return takes whatever word is topmost, and goes on there.
        self.assertEqual(run(("push", 1), ("set", 0, 4), ("save", 0, 0), ("return",), ("return",)),
                         ("ended", (4,), 5, 0, 1))
        self.assertEqual(trace_image(core, (starts, (("call", "g"), ("return",)) + (("go", "g"),) * 3), "f", (), 4),
                         (0, 4, 4, 4))

    def test_addresses_that_are_none(self):
        for word, steps in ((6, 4), (-1, 4), (5, 4), (10 ** 12, 4), (-6, 4)):
            result = run(("push", 1), ("set", 0, word), ("save", 0, 0), ("return",), ("jump", 4), ("drop", 400))
            self.assertEqual(run(("push", 1), ("set", 0, word), ("save", 0, 0), ("return",), ("return",)),
                             ("fault", None, steps, 0, 1))
            self.assertEqual(result, ("fault", None, steps, 0, 1))
        self.assertEqual(run(("set", 0, 1), ("set", 0, 2)), ("fault", None, 2, 0, 0))
        self.assertEqual(run(("call", "g"), core=whole_core(more=("g",)), starts=(("f", 0), ("g", 0)), limit=3),
                         ("spent", None, 3, 0, 3))

    def test_a_call_at_the_end_returns_behind_the_code(self):
        core, starts = whole_core(more=("g",)), (("f", 1), ("g", 0))
        self.assertEqual(run(("return",), ("call", "g"), core=core, starts=starts), ("fault", None, 2, 0, 1))


class SequenceTest(unittest.TestCase):
    def test_the_limit_is_looked_at_first(self):
        for code in ((("return",),), (("drop", 1),)):
            self.assertEqual(run(*code, limit=0), ("spent", None, 0, 0, 0))
        self.assertEqual(run(("set", 0, 1), ("drop", 1), limit=1), ("spent", None, 1, 0, 0))
        self.assertEqual(run(("set", 0, 1), ("drop", 1), limit=2), ("fault", None, 1, 0, 0))
        self.assertEqual(run(("set", 0, 1), limit=1), ("spent", None, 1, 0, 0))
        self.assertEqual(run(("set", 0, 1), limit=2), ("fault", None, 1, 0, 0))
        self.assertEqual(run(("set", 0, 1), ("return",), limit=1), ("spent", None, 1, 0, 0))
        self.assertEqual(run(("set", 0, 1), ("return",), limit=2), ("ended", (1,), 2, 0, 0))

    def test_the_example(self):
        self.assertEqual(run_image(core=SUM_CORE, image=SUM_IMAGE, name="sum", args=GIVEN, limit=100),
                         ("ended", (13,), 16, 0, 0))
        self.assertEqual(run_image(SUM_CORE, SUM_IMAGE, "sum", GIVEN, 16), ("ended", (13,), 16, 0, 0))
        self.assertEqual(run_image(SUM_CORE, SUM_IMAGE, "sum", GIVEN, 15), ("spent", None, 15, 0, 0))
        trace = (0, 1, 4, 5, 6, 7, 0, 1, 4, 5, 6, 7, 0, 1, 2, 3)
        self.assertEqual(trace_image(core=SUM_CORE, image=SUM_IMAGE, name="sum", args=GIVEN, limit=100), trace)
        for limit in range(17):
            self.assertEqual(trace_image(SUM_CORE, SUM_IMAGE, "sum", GIVEN, limit), trace[:limit])

    def test_join(self):
        for n in range(6):
            result = run_image(JOIN, JOIN_IMAGE, "join", (row_words(range(n)), row_words((9,))), 200)
            self.assertEqual(result, ("ended", row_words(list(range(n)) + [9]), 16 * n + 4, 3 * n, 2 * n))

    def test_a_million_steps_in_seconds(self):
        begun = time.monotonic()
        result = run(("push", 400), ("save", 7, 0), ("new", 0, 64), ("jump", 0), limit=10 ** 6)
        self.assertEqual(result, ("spent", None, 10 ** 6, 64 * 250000, 400 * 250000))
        self.assertEqual(trace_image(whole_core(), ((("f", 0),), (("jump", 0),)), "f", (), 10 ** 6), (0,) * 10 ** 6)
        self.assertLess(time.monotonic() - begun, 30)


class LayingTest(unittest.TestCase):
    def heap(self, params, args, many):
        """The words of the heap at the beginning, and the registers."""
        core = whole_core(params)
        found = []
        for at in range(many):
            code = (("set", 7, 0), ("take", 0, 7, at), ("return",))
            found.append(run_image(core, ((("f", 0),), code), "f", args, 9)[1][0])
        over = run_image(core, ((("f", 0),), (("set", 7, 0), ("take", 0, 7, many))), "f", args, 9)
        self.assertEqual(over, ("fault", None, 1, 0, 0))
        regs = [run_image(core, ((("f", 0),), (("copy", 0, r), ("return",))), "f", args, 9)[1][0] for r in range(8)]
        return found, regs

    def test_words_are_read_from_the_left(self):
        self.assertEqual(self.heap((), (), 0), ([], [0] * 8))
        self.assertEqual(self.heap(("whole", "whole"), ((5,), (-6,)), 0), ([], [5, -6] + [0] * 6))
        self.assertEqual(self.heap(("whole", "Row", "Box", "Row"), ((5,), row_words((7, 8)), ("Box", 9), ("Nil",)), 10),
                         ([1, 7, 3, 1, 8, 6, 0, 0, 9, 0], [5, 0, 7, 9, 0, 0, 0, 0]))

    def test_the_first_field_is_laid_ahead_of_the_second(self):
        tree = ("Node", "Node", "Leaf", 1, "Leaf", 2, "Node", "Leaf", 3, "Leaf")
        self.assertEqual(self.heap(("Tree",), (tree,), 16), (
            [1, 4, 2, 10, 1, 8, 1, 9, 0, 0, 1, 14, 3, 15, 0, 0], [0] * 8))

    def test_six_arguments(self):
        args = tuple((number,) for number in (3, 1, 4, 1, 5, 9))
        self.assertEqual(self.heap(("whole",) * 6, args, 0), ([], [3, 1, 4, 1, 5, 9, 0, 0]))


class ValueTest(unittest.TestCase):
    def gives(self, kind, code, found, limit=20000):
        end, value, _, _, _ = run(*code, ("return",), core=result_core(kind), limit=limit)
        self.assertEqual((end, value), found)

    def test_things(self):
        self.gives("Row", [("new", 0, 1)], ("ended", ("Nil",)))
        self.gives("Row", [("new", 0, 1), ("new", 1, 3), ("set", 2, 1), ("put", 1, 0, 2), ("put", 1, 2, 0),
                           ("copy", 0, 1)], ("ended", ("Cons", 0, "Nil")))
        self.gives("Box", [("new", 1, 3), ("set", 2, 5), ("put", 1, 2, 2), ("set", 0, 1)], ("ended", ("Box", 5)))

    def test_words_that_stand_for_nothing(self):
        for code in (
            [], [("set", 0, -1), ("new", 1, 1)], [("new", 1, 3), ("set", 0, 3)],
            [("new", 0, 1), ("set", 1, 2), ("put", 0, 0, 1)], [("new", 0, 1), ("set", 1, -1), ("put", 0, 0, 1)],
            # The maker is there, but a field is beyond the end of the heap.
            [("new", 0, 2), ("set", 1, 1), ("put", 0, 0, 1)], [("new", 0, 1), ("set", 1, 1), ("put", 0, 0, 1)],
            # A field stands for nothing.
            [("new", 0, 3), ("set", 1, 1), ("put", 0, 0, 1), ("set", 1, -1), ("put", 0, 2, 1)],
            [("new", 0, 3), ("set", 1, 1), ("put", 0, 0, 1), ("set", 1, 3), ("put", 0, 2, 1)],
        ):
            self.gives("Row", code, ("wild", None))
        self.gives("Box", [("new", 0, 1)], ("wild", None))
        self.gives("Box", [("new", 0, 2)], ("ended", ("Box", 0)))

    def loop(self, many, last):
        """Code that makes a Row of so many entries in front of the word last."""
        return [("set", 1, last), ("set", 2, 0), ("set", 3, many), ("set", 4, 1), ("less", 2, 3, 12),
                ("new", 0, 3), ("put", 0, 0, 4), ("put", 0, 1, 2), ("put", 0, 2, 1), ("copy", 1, 0), ("add", 2, 2, 4),
                ("jump", 4)]

    def test_four_thousand_words_and_one_more(self):
        # 1999 entries and a Nil are 3,999 words; the Tree then has 4,000, or 4,001.
        end, value, _, words, _ = run(*self.loop(1999, 0), ("return",), core=result_core("Row", ("Row",)),
                                      args=(("Nil",),), limit=20000)
        self.assertEqual((end, len(value), words), ("ended", 3999, 5997))
        end, value, steps, words, top = run(*self.loop(2000, 0), ("return",), core=result_core("Row", ("Row",)),
                                            args=(("Nil",),), limit=20000)
        self.assertEqual((end, value, steps, words, top), ("ended", None, 16006, 6000, 0))

    def tree(self, many, last):
        """Code that makes so many Nodes, each with a Leaf ahead, in front of the word last: 3 * many words and it."""
        return [("set", 1, last), ("set", 2, 0), ("set", 3, many), ("set", 4, 1), ("new", 5, 1), ("less", 2, 3, 14),
                ("new", 0, 4), ("put", 0, 0, 4), ("put", 0, 1, 5), ("put", 0, 2, 2), ("put", 0, 3, 1), ("copy", 1, 0),
                ("add", 2, 2, 4), ("jump", 5)]

    def run_tree(self, many, last):
        return run(*self.tree(many, last), ("return",), core=result_core("Tree"), limit=20000)[:2]

    def test_four_thousand_words_just(self):
        end, value = self.run_tree(1333, 0)
        self.assertEqual((end, len(value), value[-1]), ("ended", 4000, "Leaf"))
        self.assertEqual(self.run_tree(1334, 0), ("ended", None))

    def test_words_behind_the_four_thousandth_are_not_looked_at(self):
        # With 1333 Nodes the last word is the 4,000th, and must stand for something.
        self.assertEqual(self.run_tree(1333, -1), ("wild", None))
        self.assertEqual(self.run_tree(1334, -1), ("ended", None))

    def test_a_value_that_holds_itself(self):
        self.gives("Row", [("new", 0, 3), ("set", 1, 1), ("put", 0, 0, 1), ("put", 0, 2, 0)], ("ended", None))

    def test_a_field_is_looked_for_only_when_it_is_read(self):
        # The heap ends behind the first field: that one holds the thing itself, and is read for ever.
        self.gives("Tree", [("new", 0, 2), ("set", 1, 1), ("put", 0, 0, 1), ("put", 0, 1, 0)], ("ended", None))
        self.gives("Tree", [("new", 0, 1), ("set", 1, 1), ("new", 0, 3), ("put", 0, 0, 1)], ("wild", None))
        self.gives("Tree", [("new", 2, 1), ("set", 1, 1), ("new", 0, 3), ("put", 0, 0, 1), ("put", 0, 1, 2)],
                   ("wild", None))


class SecondTest(unittest.TestCase):
    def test_made_images(self):
        ends = {}
        for seed in range(1500):
            maker = Maker(seed)
            kinds = [maker.kind() for _ in range(maker.random.randint(0, 3))]
            result = maker.kind()
            rows = (("go", "f", tuple(range(len(kinds)))),)
            core = (MADE_KINDS, tuple((name, tuple(kinds), result, (("go", name, rows[0][2]),)) for name in "fg"))
            args = tuple(maker.value(kind) for kind in kinds)
            image = made_image(maker.random, "fg", maker.random.choice((3, 6, 12)))
            for limit in (5, 60):
                wanted = Second(core, image, "f", args)
                found = wanted.run(limit)
                self.assertEqual(run_image(core, image, "f", args, limit), found, (image, args))
                self.assertEqual(trace_image(core, image, "f", args, limit), tuple(wanted.trace))
                ends[found[0]] = ends.get(found[0], 0) + 1
        for end in ("spent", "fault", "wild", "ended"):
            self.assertGreater(ends[end], 50, ends)


class ErrorsTest(unittest.TestCase):
    def test_each_argument_and_their_order(self):
        unfit = ((("summ", 0),), SUM_IMAGE[1][:-1])
        for function in (run_image, trace_image):
            for thing in STRANGE:
                for error, args in (
                    (errors.BadCore, (thing, None, None, None, None)),
                    (errors.BadImage, (SUM_CORE, thing, None, None, None)),
                    (errors.BadName, (SUM_CORE, SUM_IMAGE, thing, None, None)),
                    (errors.BadArgs, (SUM_CORE, SUM_IMAGE, "sum", thing, None)),
                ):
                    with self.assertRaises(error):
                        function(*args)
                if type(thing) is not int or thing < 0:
                    with self.assertRaises(errors.BadLimit):
                        function(SUM_CORE, SUM_IMAGE, "sum", GIVEN, thing)
            with self.assertRaises(errors.Unfit):
                function(SUM_CORE, unfit, None, None, None)
            with self.assertRaises(errors.BadCore):
                function(None, unfit, None, None, None)
            for name in ("Sum", "su", "", ("sum",)):
                with self.assertRaises(errors.BadName):
                    function(SUM_CORE, SUM_IMAGE, name, None, None)
            for args in ((("Nil",),), (("Nil",), 1), (("Nil",), ("Nil",)), [("Nil",), (1,)], (("Nil",), (True,)),
                         (row_words(range(200)), (1,))):
                with self.assertRaises(errors.BadArgs):
                    function(SUM_CORE, SUM_IMAGE, "sum", args, -1)
            for limit in (-1, 10 ** 6 + 1, True, "5"):
                with self.assertRaises(errors.BadLimit):
                    function(SUM_CORE, SUM_IMAGE, "sum", GIVEN, limit)
            function(SUM_CORE, SUM_IMAGE, "sum", GIVEN, 10 ** 6)
            function(SUM_CORE, SUM_IMAGE, "sum", (row_words(range(199)), (1,)), 0)


if __name__ == "__main__":
    unittest.main()
