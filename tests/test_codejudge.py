"""[29] to [37], [66], [25], and the interface's section juststeps/codejudge.py."""

import time
import unittest
from random import Random

from juststeps import errors
from juststeps.codejudge import judge_code, stretches
from juststeps.compiling import compile_core
from juststeps.cores import is_core, way
from juststeps.images import is_image
from juststeps.lowering import lowered
from juststeps.machine import run_image, trace_image
from juststeps.plain import passed, run_priced
from juststeps.plaincode import plain_code, plain_table
from juststeps.programs import is_program
from juststeps.rewrites import improve
from tests.helper import BOX, JOIN, JOIN_PRICES, ROW, STRANGE, Maker, core_of, with_part
from tests.judges import changed, second_judge
from tests.machines import JOIN_CODE, JOIN_IMAGE, SUM_CODE, SUM_CORE, SUM_IMAGE, made_instruction, value_for
from tests.test_plaincode import frame_of

SUM_PRICES = (((2, 0, 0, 0), (2, 0, 0, 0), None, (4, 0, 0, 0)),)
NEXT = ((BOX,), (("next", ("Box",), "Box", (("match", 0, (("Box", (1,), 1),)), ("num", 2, 1), ("add", 3, 1, 2),
                                           ("make", 4, "Box", (3,)), ("give", 4))),))
NEXT_CODE = (("take", 1, 0, 1), ("set", 2, 1), ("add", 1, 1, 2), ("new", 0, 2), ("put", 0, 1, 1), ("return",))
SWAP = ("Swap", (("One", ("whole",)), ("Two", ("whole", "Row"))))
FAR = ("Far", (("Far", ("whole",)),))


def judged(core, code, at=0):
    """What judge_code tells of code with one start; it is compared with the second judge."""
    image = (((core[1][0][0], at),), tuple(code))
    assert is_core(core) and is_image(image)
    result = judge_code(core, image)
    wanted, paths = second_judge(core, image)
    assert result == wanted, (result, wanted)
    if paths is not None:
        assert stretches(core, image) == paths
    return result


class JudgeCase(unittest.TestCase):
    def lets(self, rows, params, code, *prices, result="whole", kinds=(ROW, BOX)):
        """The code is let by; prices are (row, price) of the rows that have one."""
        core = core_of(rows, params, result, kinds)
        found = judged(core, code)
        self.assertEqual(found[0], "let", found)
        self.assertEqual(tuple((row, price) for row, price in enumerate(found[1][0]) if price is not None), prices)

    def refuses(self, rows, params, code, row, address, result="whole", kinds=(ROW, BOX)):
        self.assertEqual(judged(core_of(rows, params, result, kinds), code), ("refused", "f", row, address), code)

    def first_stuck(self, code, params=("whole", "Row", "Box"), kinds=(ROW, BOX)):
        """Instructions of which the last one can neither be done in silence nor meet the row: a give of param 0."""
        self.refuses((("give", 0),), params, tuple(code) + (("return",),), 0, len(code) - 1, kinds=kinds)

    def silent(self, code, params=("whole", "Row", "Box"), kinds=(ROW, BOX)):
        """Instructions that can be done in silence; a give of param 0 is met behind them."""
        code = tuple(code)
        words = sum(each[2] for each in code if each[0] == "new")
        found = judged(core_of((("give", 0),), params, "whole", kinds), code + (("return",),))
        self.assertEqual(found[0], "let", (code, found))
        self.assertEqual(found[1][0][0][:2], (len(code) + 1, words))


class ExamplesTest(JudgeCase):
    def test_sum(self):
        self.assertEqual(judge_code(core=SUM_CORE, image=SUM_IMAGE), ("let", SUM_PRICES))
        self.assertEqual(stretches(core=SUM_CORE, image=SUM_IMAGE), (((0, 1), (2, 3), None, (4, 5, 6, 7)),))
        self.assertEqual(judged(SUM_CORE, with_part(SUM_CODE, (5,), ("add", 1, 3, 1))), ("refused", "sum", 3, 7))
        self.assertEqual(judged(SUM_CORE, with_part(SUM_CODE, (0,), ("take", 2, 1, 0))), ("refused", "sum", 0, 0))

    def test_next(self):
        self.assertEqual(judged(NEXT, NEXT_CODE), ("let", ((None, None, None, None, (6, 2, 0, 0)),)))
        self.assertEqual(judged(NEXT, with_part(NEXT_CODE, (4,), ("put", 0, 1, 0))), ("refused", "next", 4, 4))
        self.assertEqual(judged(NEXT, (("set", 1, 0), ("put", 0, 1, 1), ("return",))), ("refused", "next", 4, 1))

    def test_join(self):
        self.assertEqual(judge_code(JOIN, JOIN_IMAGE), ("let", JOIN_PRICES))
        self.assertEqual(stretches(JOIN, JOIN_IMAGE), (((0, 1), (2, 3), (4, 5, 6, 7, 8), None, tuple(range(9, 18))),))

    def test_each_instruction_of_the_examples_is_wanted(self):
        # Without it, or with another one in its place, a row is refused, but where the other one does the same.
        for core, code in ((SUM_CORE, SUM_CODE), (NEXT, NEXT_CODE), (JOIN, JOIN_CODE)):
            for at in range(len(code)):
                jumping = judged(core, with_part(code, (at,), ("jump", min(at + 1, len(code) - 1))))
                self.assertEqual(jumping[0], "refused", (code, at))
                random = Random(at)
                refused = 0
                for _ in range(40):
                    other = made_instruction(random, [core[1][0][0]], len(code))
                    refused += judged(core, with_part(code, (at,), other))[0] == "refused"
                self.assertGreater(refused, 30)


class SilentTest(JudgeCase):
    def test_set_and_copy(self):
        self.silent([("set", 3, 5), ("copy", 4, 3), ("copy", 5, 1), ("copy", 5, 0)])
        self.first_stuck([("copy", 4, 3)])

    def test_sums(self):
        for word in ("add", "sub"):
            self.silent([(word, 3, 0, 0), (word, 4, 3, 0), ("set", 5, 7), (word, 6, 5, 4)])
            self.first_stuck([(word, 3, 0, 1)])
            self.first_stuck([(word, 3, 1, 0)])
            self.first_stuck([(word, 3, 0, 4)])
            self.first_stuck([(word, 3, 4, 0)])
            self.first_stuck([("new", 4, 1), (word, 3, 0, 4)])
            self.first_stuck([("take", 4, 1, 0), (word, 3, 0, 4)])
        self.silent([("times", 3, 0, 5), ("set", 4, 5), ("times", 4, 4, 0)])
        for source in (1, 2, 3):
            self.first_stuck([("times", 4, source, 5)])
        self.first_stuck([("new", 3, 1), ("times", 4, 3, 5)])
        self.first_stuck([("take", 3, 1, 0), ("times", 4, 3, 5)])
        self.silent([("take", 3, 2, 1), ("times", 4, 3, 5), ("add", 4, 4, 3)])

    def test_new_put_and_take(self):
        self.silent([("new", 3, 2), ("put", 3, 1, 0), ("put", 3, 0, 1), ("take", 4, 3, 0), ("take", 5, 3, 1),
                     ("add", 5, 5, 0), ("take", 6, 4, 0)])
        self.silent([("new", 3, 64), ("put", 3, 63, 0)])
        self.first_stuck([("new", 3, 2), ("put", 3, 2, 0)])
        self.first_stuck([("new", 3, 2), ("take", 4, 3, 2)])
        self.first_stuck([("new", 3, 2), ("put", 3, 0, 4)])
        self.first_stuck([("put", 3, 0, 0)])
        self.first_stuck([("take", 3, 4, 0)])
        self.first_stuck([("put", 1, 0, 0)])
        self.first_stuck([("put", 0, 0, 0)])
        # A tag is never put; a word of a known thing is.
        self.first_stuck([("new", 3, 2), ("take", 4, 1, 0), ("put", 3, 0, 4)])
        self.silent([("new", 3, 2), ("take", 4, 2, 0), ("put", 3, 0, 4)])
        self.silent([("new", 3, 2), ("take", 4, 2, 1), ("put", 3, 0, 4)])

    def test_take_of_things(self):
        self.silent([("take", 3, 1, 0), ("take", 3, 2, 0), ("take", 3, 2, 1)])
        self.first_stuck([("take", 3, 1, 1)])
        self.first_stuck([("take", 3, 2, 2)])
        self.first_stuck([("take", 3, 0, 0)])
        self.first_stuck([("set", 4, 0), ("take", 3, 4, 0)])
        self.first_stuck([("take", 4, 1, 0), ("take", 3, 4, 0)])

    def test_a_cell_that_is_put_is_shut_everywhere(self):
        self.silent([("new", 3, 2), ("copy", 4, 3), ("new", 5, 1), ("put", 4, 0, 0), ("put", 5, 0, 3), ("take", 6, 4, 0),
                     ("add", 6, 6, 0), ("take", 6, 3, 1)])
        for r in (3, 4):
            self.first_stuck([("new", 3, 2), ("copy", 4, 3), ("new", 5, 1), ("put", 5, 0, 3), ("put", r, 0, 0)])
        self.first_stuck([("push", 1), ("new", 3, 2), ("save", 0, 3), ("new", 5, 1), ("put", 5, 0, 3), ("load", 4, 0),
                          ("put", 4, 0, 0)])
        self.first_stuck([("new", 3, 2), ("put", 3, 0, 3)])
        # A cell that is shut has no more words than it had.
        self.silent([("new", 3, 2), ("new", 5, 1), ("put", 5, 0, 3), ("take", 6, 3, 1)])
        self.first_stuck([("new", 3, 2), ("new", 5, 1), ("put", 5, 0, 3), ("take", 6, 3, 2)])
        self.first_stuck([("new", 3, 1), ("new", 5, 1), ("put", 5, 0, 3), ("take", 6, 3, 63)])
        # It stays shut however it is taken out again.
        self.first_stuck([("new", 3, 2), ("new", 5, 1), ("put", 5, 0, 3), ("take", 6, 5, 0), ("put", 6, 0, 0)])
        # One that several hold is one: what is put into it stands in all.
        self.silent([("new", 3, 2), ("copy", 4, 3), ("push", 1), ("save", 0, 3), ("put", 4, 1, 1), ("load", 5, 0),
                     ("take", 6, 5, 1), ("take", 7, 6, 0), ("drop", 1)])

    def test_frame(self):
        self.silent([("push", 2), ("save", 1, 0), ("save", 0, 1), ("load", 3, 1), ("add", 3, 3, 3), ("load", 4, 0),
                     ("take", 4, 4, 0), ("drop", 1), ("load", 5, 0), ("add", 5, 5, 5), ("drop", 1), ("drop", 0)])
        self.first_stuck([("drop", 1)])
        self.first_stuck([("push", 2), ("drop", 3)])
        self.first_stuck([("push", 2), ("save", 2, 0)])
        self.first_stuck([("push", 2), ("load", 3, 2)])
        self.first_stuck([("push", 1), ("save", 0, 3)])
        # What is put on the frame is the number 0, whatever stood there.
        self.silent([("push", 1), ("save", 0, 0), ("drop", 1), ("push", 1), ("load", 3, 0), ("table", 3, (6,)), ("drop", 1)])

    def test_choices_of_numbers(self):
        self.silent([("set", 3, 1), ("set", 4, 2), ("less", 3, 4, 0)])
        for low, high in ((2, 2), (3, 2)):
            found = judged(core_of((("give", 0),), ("whole",)),
                           (("set", 3, low), ("set", 4, high), ("less", 3, 4, 4), ("drop", 1), ("return",)))
            self.assertEqual(found, ("let", (((4, 0, 0, 0),),)))
        self.first_stuck([("less", 0, 0, 0)])
        self.first_stuck([("set", 3, 1), ("less", 3, 0, 0)])
        self.first_stuck([("set", 3, 1), ("less", 3, 4, 0)])
        self.first_stuck([("set", 3, 1), ("less", 3, 1, 0)])
        self.silent([("set", 3, 1), ("table", 3, (0, 2))])
        for number in (-1, 2, 10 ** 12):
            self.first_stuck([("set", 3, number), ("table", 3, (0, 2))])
        self.first_stuck([("table", 0, (0, 1))])
        self.first_stuck([("take", 3, 1, 0), ("table", 3, (0, 1))])
        self.silent([("take", 3, 2, 0), ("table", 3, (2, 0))])
        self.silent([("jump", 1), ("jump", 2)])

    def test_what_is_never_silent(self):
        for word in (("call", "f"), ("go", "f")):
            self.first_stuck([word])

    def test_registers_behind_the_params_hold_nothing(self):
        self.refuses((("num", 0, 0), ("give", 0)), (), (("return",),), 1, 0)
        self.lets((("num", 0, 0), ("give", 0)), (), (("set", 0, 0), ("return",)), (1, (2, 0, 0, 0)))


class TermsTest(JudgeCase):
    def test_sums_of_numbers_are_numbers(self):
        self.lets((("num", 0, 2), ("num", 1, 3), ("add", 2, 0, 1), ("sub", 3, 2, 0), ("times", 4, 3, -7), ("give", 4)),
                  (), (("set", 0, -21), ("return",)), (5, (2, 0, 0, 0)))
        self.lets((("num", 0, 2), ("num", 1, 10 ** 12), ("times", 2, 1, 10 ** 6), ("add", 3, 2, 0), ("give", 3)),
                  (), (("set", 0, 10 ** 9), ("times", 0, 0, 10 ** 6), ("times", 0, 0, 10 ** 3), ("set", 1, 2),
                       ("sub", 2, 1, 1), ("sub", 2, 2, 1), ("sub", 0, 0, 2), ("return",)), (4, (8, 0, 0, 0)))

    def test_other_sums_are_equal_only_if_they_are_built_alike(self):
        add = (("add", 2, 0, 1), ("give", 2))
        self.lets(add, ("whole",) * 2, (("add", 0, 0, 1), ("return",)), (1, (2, 0, 0, 0)))
        self.refuses(add, ("whole",) * 2, (("add", 0, 1, 0), ("return",)), 1, 1)
        self.refuses((("sub", 2, 0, 1), ("give", 2)), ("whole",) * 2, (("add", 0, 0, 1), ("return",)), 1, 1)
        self.refuses((("times", 1, 0, 2), ("give", 1)), ("whole",), (("add", 0, 0, 0), ("return",)), 1, 1)
        self.refuses((("times", 1, 0, 1), ("give", 1)), ("whole",), (("return",),), 1, 0)
        self.refuses((("give", 0),), ("whole",), (("times", 0, 0, 1), ("return",)), 0, 1)
        self.refuses((("num", 1, 0), ("add", 2, 0, 1), ("give", 2)), ("whole",), (("return",),), 2, 0)
        self.lets((("times", 1, 0, 2), ("times", 2, 1, 3), ("give", 2)), ("whole",),
                  (("times", 7, 0, 2), ("times", 0, 7, 3), ("return",)), (2, (3, 0, 0, 0)))
        self.refuses((("times", 1, 0, 2), ("times", 2, 1, 3), ("give", 2)), ("whole",),
                     (("times", 0, 0, 6), ("return",)), 2, 1)

    def test_a_cell_of_all_words_of_a_known_thing_is_the_thing(self):
        rows = (("match", 0, (("Nil", (), 1), ("Cons", (1, 2), 2))), ("give", 0), ("make", 3, "Cons", (1, 2)), ("give", 3))
        table = (("take", 1, 0, 0), ("table", 1, (2, 2)), ("return",))
        self.lets(rows, ("Row",), table, (0, (2, 0, 0, 0)), (1, (1, 0, 0, 0)), (3, (1, 0, 0, 0)), result="Row")
        again = table[:1] + (("table", 1, (2, 3)), ("return",), ("take", 1, 0, 1), ("take", 2, 0, 2), ("new", 3, 3),
                             ("set", 4, 1), ("put", 3, 0, 4), ("put", 3, 1, 1), ("put", 3, 2, 2), ("copy", 0, 3),
                             ("return",))
        self.lets(rows, ("Row",), again, (0, (2, 0, 0, 0)), (1, (1, 0, 0, 0)), (3, (9, 3, 0, 0)), result="Row")
        self.refuses(rows, ("Row",), with_part(again, (6,), ("set", 4, 0)), 3, 11, result="Row")
        self.refuses(rows, ("Row",), with_part(again, (9,), ("put", 3, 2, 0)), 3, 11, result="Row")
        self.refuses(rows, ("Row",), with_part(again, (5,), ("new", 3, 4)), 3, 11, result="Row")
        other = rows[:2] + (("make", 3, "Cons", (1, 0)), ("give", 3))
        self.refuses(other, ("Row",), table, 3, 2, result="Row")

    def test_a_cell_of_one_word_is_no_thing(self):
        rows = (("match", 0, (("Nil", (), 1), ("Cons", (1, 2), 3))), ("make", 3, "Nil", ()), ("give", 3), ("give", 0))
        self.refuses(rows, ("Row",), (("take", 1, 0, 0), ("table", 1, (2, 2)), ("return",)), 2, 2, result="Row")
        self.lets(rows, ("Row",), (("take", 1, 0, 0), ("table", 1, (3, 2)), ("return",), ("new", 0, 1), ("return",)),
                  (0, (2, 0, 0, 0)), (2, (2, 1, 0, 0)), (3, (1, 0, 0, 0)), result="Row")

    def test_a_kind_with_one_maker_is_known(self):
        rows = (("match", 0, (("Box", (1,), 1),)), ("make", 2, "Box", (1,)), ("give", 2))
        self.lets(rows, ("Box",), (("return",),), (2, (1, 0, 0, 0)), result="Box")

    def test_a_term_may_stand_for_values_of_two_kinds(self):
        # A Box and a Far of the same number are one cell, and so are a Box and a One: both have the index 0.
        kinds = (ROW, BOX, FAR, SWAP)
        rows = (("match", 0, (("Box", (1,), 1),)), ("make", 2, "Far", (1,)), ("give", 2))
        self.lets(rows, ("Box",), (("return",),), (2, (1, 0, 0, 0)), result="Far", kinds=kinds)
        rows = (("match", 0, (("Box", (1,), 1),)), ("make", 2, "One", (1,)),
                ("match", 2, (("One", (3,), 3), ("Two", (4, 5), 4))), ("give", 3), ("give", 4))
        self.lets(rows, ("Box",), (("take", 0, 0, 1), ("return",)), (3, (2, 0, 0, 0)), kinds=kinds)
        # Two, with the index 1, is never a Box.
        rows = (("match", 0, (("One", (1,), 1), ("Two", (2, 3), 3))), ("make", 4, "Box", (1,)), ("give", 4),
                ("make", 5, "Box", (2,)), ("give", 5))
        code = (("take", 1, 0, 0), ("table", 1, (2, 3)), ("return",), ("take", 1, 0, 1), ("new", 0, 2), ("put", 0, 1, 1),
                ("return",))
        self.lets(rows, ("Swap",), code, (0, (2, 0, 0, 0)), (2, (1, 0, 0, 0)), (4, (4, 2, 0, 0)), result="Box", kinds=kinds)
        self.refuses(rows, ("Swap",), with_part(code, (1,), ("table", 1, (2, 2))), 4, 2, result="Box", kinds=kinds)

    def test_words_have_the_kind_of_the_maker_that_is_known(self):
        # The word 1 is a number in one branch and a thing in the other.
        kinds = (ROW, ("Any", (("Num", ("whole",)), ("List", ("Row",)))))
        rows = (("match", 0, (("Num", (1,), 1), ("List", (2,), 3))), ("add", 3, 1, 1), ("give", 3),
                ("match", 2, (("Nil", (), 4), ("Cons", (4, 5), 6))), ("num", 6, 0), ("give", 6), ("give", 4))
        code = (("take", 1, 0, 0), ("table", 1, (2, 5)), ("take", 1, 0, 1), ("add", 0, 1, 1), ("return",), ("take", 1, 0, 1),
                ("take", 2, 1, 0), ("table", 2, (8, 10)), ("set", 0, 0), ("return",), ("take", 0, 1, 1), ("return",))
        self.lets(rows, ("Any",), code, (0, (2, 0, 0, 0)), (2, (3, 0, 0, 0)), (3, (3, 0, 0, 0)), (5, (2, 0, 0, 0)),
                  (6, (2, 0, 0, 0)), kinds=kinds)
        self.refuses(rows, ("Any",), with_part(code, (1,), ("table", 1, (5, 5))), 2, 6, kinds=kinds)
        self.refuses(rows, ("Any",), with_part(code, (1,), ("table", 1, (2, 2))), 3, 3, kinds=kinds)


class CoreSideTest(JudgeCase):
    def test_decided_rows_have_no_price(self):
        rows = (("num", 1, 1), ("num", 2, 2), ("less", 1, 2, 4), ("give", 0), ("give", 1))
        self.lets(rows, ("whole",), (("return",),), (3, (1, 0, 0, 0)))
        self.lets(with_part(rows, (2,), ("less", 2, 1, 4)), ("whole",), (("set", 0, 1), ("return",)), (4, (2, 0, 0, 0)))
        self.lets(with_part(rows, (2,), ("less", 1, 1, 4)), ("whole",), (("set", 0, 1), ("return",)), (4, (2, 0, 0, 0)))
        # Terms that are equal but no numbers decide nothing.
        rows = (("less", 0, 0, 2), ("give", 0), ("give", 0))
        self.lets(rows, ("whole",), (("less", 0, 0, 1), ("return",)), (0, (1, 0, 0, 0)), (1, (1, 0, 0, 0)),
                  (2, (1, 0, 0, 0)))
        self.refuses(rows, ("whole",), (("return",),), 0, 0)

    def test_a_match_of_what_is_made_is_decided(self):
        rows = (("make", 1, "Nil", ()), ("make", 2, "Cons", (0, 1)),
                ("match", 2, (("Nil", (), 3), ("Cons", (3, 4), 4))), ("give", 0),
                ("match", 4, (("Nil", (), 5), ("Cons", (5, 6), 6))), ("give", 3), ("give", 5))
        self.lets(rows, ("whole",), (("return",),), (5, (1, 0, 0, 0)))

    def test_a_second_match_is_decided(self):
        rows = (("match", 0, (("Nil", (), 1), ("Cons", (2, 3), 4))),
                ("match", 0, (("Nil", (), 2), ("Cons", (4, 5), 3))), ("give", 1), ("give", 4),
                ("match", 0, (("Nil", (), 5), ("Cons", (6, 7), 6))), ("give", 1), ("give", 6))
        self.lets(rows, ("Row", "whole"), (("take", 2, 0, 0), ("table", 2, (3, 2)), ("take", 1, 0, 1), ("copy", 0, 1),
                                           ("return",)),
                  (0, (2, 0, 0, 0)), (2, (2, 0, 0, 0)), (6, (3, 0, 0, 0)))


class EventsTest(JudgeCase):
    LESS = (("less", 0, 1, 2), ("give", 0), ("give", 1))
    MATCH = (("match", 0, (("Nil", (), 1), ("Cons", (2, 3), 2))), ("give", 1), ("give", 2))
    CALL = (("call", 3, "f", (1, 0, 2)), ("give", 3))
    GO = (("go", "f", (1, 0, 2)),)

    def test_less(self):
        code = (("less", 0, 1, 2), ("return",), ("copy", 0, 1), ("return",))
        two = ("whole",) * 2
        self.lets(self.LESS, two, code, (0, (1, 0, 0, 0)), (1, (1, 0, 0, 0)), (2, (2, 0, 0, 0)))
        self.refuses(self.LESS, two, with_part(code, (0,), ("less", 1, 0, 2)), 0, 0)
        self.refuses(self.LESS, two, with_part(code, (0,), ("less", 0, 0, 2)), 0, 0)
        self.refuses(self.LESS, two, with_part(code, (0,), ("less", 0, 2, 2)), 0, 0)
        self.refuses(self.LESS, two, with_part(code, (0,), ("less", 0, 1, 1)), 2, 1)
        self.refuses(self.LESS, two, with_part(code, (0,), ("less", 0, 1, 3)), 2, 3)
        self.refuses(self.LESS, two, with_part(code, (0,), ("return",)), 0, 0)
        self.refuses(self.LESS, two, with_part(code, (0,), ("copy", 2, 3)), 0, 0)

    def test_the_frames_of_two_branches_are_two(self):
        two = ("whole",) * 2
        # What one branch saves, or takes off its frame, is nothing to the other one.
        code = (("push", 2), ("save", 1, 0), ("save", 0, 1), ("less", 0, 1, 8),
                ("drop", 2), ("push", 2), ("drop", 2), ("return",),
                ("load", 0, 0), ("sub", 2, 0, 0), ("load", 3, 1), ("add", 3, 3, 0), ("drop", 2), ("return",))
        self.lets(self.LESS, two, code, (0, (4, 0, 2, 0)), (1, (4, 0, 2, 0)), (2, (6, 0, 2, 0)))
        for i in (0, 1):
            stale = code[:6] + (("load", 3, i), ("table", 3, (8,))) + code[6:8] + code[8:]
            stale = with_part(stale, (3, 3), 10)
            self.lets(self.LESS, two, stale, (0, (4, 0, 2, 0)), (1, (6, 0, 2, 0)), (2, (6, 0, 2, 0)))
        saved = code[:4] + (("save", 0, 7), ("drop", 2), ("return",)) + code[8:]
        self.refuses(self.LESS, two, with_part(saved, (3, 3), 7), 1, 4)
        saved = code[:4] + (("set", 7, 5), ("save", 0, 7), ("save", 1, 7), ("drop", 2), ("return",)) + code[8:]
        self.lets(self.LESS, two, with_part(saved, (3, 3), 9), (0, (4, 0, 2, 0)), (1, (5, 0, 2, 0)), (2, (6, 0, 2, 0)))

    def test_match(self):
        code = (("take", 3, 0, 0), ("table", 3, (2, 4)), ("copy", 0, 1), ("return",), ("take", 0, 0, 1), ("return",))
        params = ("Row", "whole")
        found = ((0, (2, 0, 0, 0)), (1, (2, 0, 0, 0)), (2, (2, 0, 0, 0)))
        self.lets(self.MATCH, params, code, *found)
        for js in ((2,), (2, 4, 4)):
            self.refuses(self.MATCH, params, with_part(code, (1, 2), js), 0, 1)
        self.refuses(self.MATCH, params, with_part(code, (1, 2), (4, 4)), 1, 4)
        self.refuses(self.MATCH, params, with_part(code, (1, 2), (2, 2)), 2, 3)
        self.refuses(self.MATCH, params, with_part(code, (1, 2), (2, 1)), 2, 1)
        for r in (0, 1, 2):
            self.refuses(self.MATCH, params, with_part(code, (1, 1), r), 0, 1)
        # The tag of another thing with the same kind.
        rows = (("match", 0, (("Nil", (), 1), ("Cons", (3, 4), 2))), ("give", 2), ("give", 2))
        self.refuses(rows, ("Row", "Row", "whole"), (("take", 3, 1, 0), ("table", 3, (2, 2)), ("copy", 0, 2), ("return",)), 0, 1)

    def test_tags_become_numbers(self):
        # In registers and in the frame, wherever the tag is held; each of the tables behind takes its own entry.
        code = (("push", 1), ("take", 3, 0, 0), ("copy", 4, 3), ("save", 0, 3), ("table", 3, (5, 9)),
                ("table", 4, (6, 4)), ("drop", 1), ("copy", 0, 1), ("return",),
                ("load", 5, 0), ("table", 5, (0, 11)), ("drop", 1), ("take", 0, 0, 1), ("return",))
        self.lets(self.MATCH, ("Row", "whole"), code, (0, (5, 0, 1, 0)), (1, (4, 0, 1, 0)), (2, (5, 0, 1, 0)))
        rows = (("match", 0, (("Nil", (), 1), ("Cons", (2, 3), 3))), ("num", 4, 0), ("give", 4), ("num", 5, 1), ("give", 5))
        self.lets(rows, ("Row", "whole"), (("take", 3, 0, 0), ("table", 3, (2, 2)), ("copy", 0, 3), ("return",)),
                  (0, (2, 0, 0, 0)), (2, (2, 0, 0, 0)), (4, (2, 0, 0, 0)))

    def test_call(self):
        three = ("whole",) * 3
        code = (("copy", 3, 0), ("copy", 0, 1), ("copy", 1, 3), ("call", "f"), ("return",))
        self.lets(self.CALL, three, code, (0, (4, 0, 1, 1)), (1, (1, 0, 0, 0)))
        self.refuses(self.CALL, three, code[1:], 0, 1)
        self.refuses(self.CALL, three, code[3:], 0, 0)
        self.refuses(self.CALL, three, with_part(code, (3,), ("go", "f")), 0, 3)
        self.refuses(self.CALL, three, with_part(code, (2,), ("set", 1, 3)), 0, 3)
        # Behind the call the other registers hold nothing.
        for r in range(1, 8):
            self.refuses(self.CALL, three, code[:4] + (("copy", 0, r), ("return",)), 1, 4)
        other = core_of(self.CALL, three, more=(("g", three, "whole", (("give", 0),)),))
        image = (("f", 0), ("g", 4)), with_part(code, (3,), ("call", "g"))
        self.assertEqual(judge_code(other, image), ("refused", "f", 0, 3))
        image = (("f", 0), ("g", 4)), code
        self.assertEqual(judge_code(other, image), ("let", (((4, 0, 1, 1), (1, 0, 0, 0)), ((1, 0, 0, 0),))))

    def test_two_calls_have_two_results(self):
        rows = (("call", 1, "f", (0,)), ("call", 2, "f", (0,)), ("sub", 3, 1, 2), ("give", 3))
        code = (("push", 2), ("save", 0, 0), ("call", "f"), ("save", 1, 0), ("load", 0, 0), ("call", "f"), ("load", 1, 1),
                ("sub", 0, 1, 0), ("drop", 2), ("return",))
        self.lets(rows, ("whole",), code, (0, (3, 0, 3, 3)), (1, (3, 0, 3, 3)), (3, (4, 0, 2, 0)))
        self.refuses(rows, ("whole",), with_part(code, (7,), ("sub", 0, 0, 0)), 3, 9)

    def test_open_cells_are_shut_at_calls(self):
        rows = (("make", 1, "Nil", ()), ("make", 2, "Cons", (0, 1)), ("call", 3, "f", (0,)), ("go", "g", (3, 2)))
        more = (("g", ("whole", "Row"), "whole", (("give", 0),)),)
        core = core_of(rows, ("whole",), more=more)
        code = (("push", 1), ("new", 1, 3), ("save", 0, 1), ("set", 2, 1), ("put", 1, 0, 2), ("put", 1, 1, 0), ("new", 3, 1),
                ("put", 1, 2, 3), ("call", "f"), ("load", 1, 0), ("drop", 1), ("go", "g"), ("return",))
        image = ((("f", 0), ("g", 12)), code)
        prices = ((None, None, (9, 4, 2, 2), (3, 0, 1, 0)), ((1, 0, 0, 0),))
        self.assertEqual(judge_code(core, image), ("let", prices))
        self.assertEqual(second_judge(core, image)[0], ("let", prices))
        # A cell beside the arguments stays open over a call, and takes words behind it.
        late = code[:7] + (("call", "f"), ("load", 1, 0), ("new", 3, 1), ("put", 1, 2, 3), ("drop", 1), ("go", "g"), ("return",))
        image = ((("f", 0), ("g", 13)), late)
        self.assertEqual(judge_code(core, image)[0], "let")
        # One that is an argument does not.
        core = core_of((("make", 2, "Nil", ()), ("make", 3, "Cons", (0, 2)), ("call", 4, "f", (0, 3)), ("give", 3)),
                       ("whole", "Row"), "Row")
        code = (("push", 1), ("new", 1, 3), ("save", 0, 1), ("set", 2, 1), ("put", 1, 0, 2), ("put", 1, 1, 0), ("new", 3, 1),
                ("put", 1, 2, 3), ("call", "f"), ("load", 0, 0), ("drop", 1), ("return",))
        self.assertEqual(judged(core, code)[0], "let")
        wrong = code[:10] + (("set", 2, 5), ("put", 0, 1, 2), ("drop", 1), ("return",))
        self.assertEqual(judged(core, wrong), ("refused", "f", 3, 11))

    def test_give(self):
        give = (("give", 1),)
        self.lets(give, ("whole", "whole"), (("copy", 0, 1), ("return",)), (0, (2, 0, 0, 0)))
        self.refuses(give, ("whole", "whole"), (("return",),), 0, 0)
        self.refuses(give, ("whole", "whole"), (("push", 1), ("copy", 0, 1), ("return",)), 0, 2)
        self.refuses(give, ("whole", "whole"), (("copy", 0, 1), ("go", "f")), 0, 1)
        self.refuses(give, ("whole", "whole"), (("copy", 0, 1), ("call", "f")), 0, 1)
        self.refuses((("make", 0, "Nil", ()), ("give", 0)), (), (("return",),), 1, 0, result="Row")

    def test_go(self):
        three = ("whole",) * 3
        code = (("copy", 3, 0), ("copy", 0, 1), ("copy", 1, 3), ("go", "f"))
        self.lets(self.GO, three, code, (0, (4, 0, 0, 0)))
        self.refuses(self.GO, three, code[3:], 0, 0)
        self.refuses(self.GO, three, with_part(code, (3,), ("call", "f")), 0, 3)
        self.refuses(self.GO, three, (("push", 1),) + code, 0, 4)
        self.lets(self.GO, three, (("push", 1),) + code[:3] + (("drop", 1), ("go", "f")), (0, (6, 0, 1, 0)))


class StretchTest(JudgeCase):
    GIVE = (("give", 0),)

    def test_as_many_addresses_as_the_code_has_and_one_more(self):
        # A way that goes through all instructions, and one that passes an instruction twice.
        self.lets(self.GIVE, ("whole",), (("jump", 2), ("return",), ("jump", 1)), (0, (3, 0, 0, 0)))
        loop = (("push", 1), ("load", 1, 0), ("table", 1, (4, 8)), ("drop", 0), ("set", 1, 1), ("save", 0, 1), ("jump", 1),
                ("drop", 0), ("drop", 1), ("return",))
        way_of_ten = (0, 1, 2, 4, 5, 6, 1, 2, 8, 9)
        self.lets(self.GIVE, ("whole",), loop, (0, (10, 0, 1, 0)))
        self.assertEqual(stretches(core_of(self.GIVE, ("whole",)), ((("f", 0),), loop)), ((way_of_ten,),))
        shorter = loop[:3] + loop[4:]
        shorter = with_part(with_part(shorter, (2, 2), (3, 7)), (5,), ("jump", 1))
        self.refuses(self.GIVE, ("whole",), shorter, 0, 8)

    def test_a_loop_is_left_at_the_address_where_it_becomes_too_long(self):
        self.refuses(self.GIVE, ("whole",), (("jump", 0),), 0, 0)
        self.refuses(self.GIVE, ("whole",), (("jump", 1), ("jump", 0)), 0, 0)
        self.refuses(self.GIVE, ("whole",), (("jump", 1), ("jump", 0), ("return",)), 0, 1)
        self.refuses(self.GIVE, ("whole",), (("jump", 1), ("set", 1, 0), ("jump", 1)), 0, 1)

    def test_a_stretch_that_goes_on_behind_the_last_instruction(self):
        self.refuses(self.GIVE, ("whole",), (("set", 1, 0),), 0, 1)
        self.refuses(self.GIVE, ("whole",), (("set", 1, 0), ("set", 2, 0)), 0, 2)
        self.refuses((("call", 1, "f", (0,)), ("give", 1)), ("whole",), (("call", "f"),), 1, 1)
        self.refuses((("less", 0, 0, 2), ("give", 0), ("give", 0)), ("whole",), (("less", 0, 0, 0),), 1, 1)

    def test_prices(self):
        code = (("push", 3), ("drop", 2), ("new", 1, 5), ("new", 2, 64), ("call", "f"), ("push", 0), ("drop", 1), ("return",))
        rows = (("call", 1, "f", (0,)), ("give", 1))
        self.lets(rows, ("whole",), code, (0, (5, 69, 3, 2)), (1, (3, 0, 1, 0)))
        self.lets(rows, ("whole",), (("push", 3), ("call", "f"), ("drop", 3), ("return",)), (0, (2, 0, 4, 4)),
                  (1, (2, 0, 3, 0)))

    def test_the_first_row_that_is_not_met(self):
        core = core_of(EventsTest.LESS, ("whole",) * 2, more=(("g", (), "whole", (("num", 0, 1), ("give", 0))),))
        code = (("less", 0, 1, 3), ("copy", 0, 2), ("return",), ("return",), ("set", 0, 1), ("return",))
        self.assertEqual(judge_code(core, ((("f", 0), ("g", 4)), code)), ("refused", "f", 1, 1))
        code = with_part(code, (1,), ("copy", 1, 1))
        self.assertEqual(judge_code(core, ((("f", 0), ("g", 4)), code)), ("refused", "f", 2, 3))
        code = with_part(code, (0,), ("less", 0, 1, 3))[:3] + (("copy", 0, 1),) + code[3:]
        self.assertEqual(judge_code(core, ((("f", 0), ("g", 6)), code)), ("refused", "g", 1, 6))
        self.assertEqual(judge_code(core, ((("f", 0), ("g", 5)), code))[0], "let")

    def test_refused_has_fields(self):
        image = (SUM_IMAGE[0], with_part(SUM_CODE, (5,), ("add", 1, 3, 1)))
        with self.assertRaises(errors.Refused) as caught:
            stretches(SUM_CORE, image)
        self.assertEqual((caught.exception.name, caught.exception.row, caught.exception.address), ("sum", 3, 7))


def plain_prices(core):
    """The prices of plain code, as [25] tells them, by the rows that the judge finds decided."""
    found = []
    judge = judge_code(core, plain_code(core))[1]
    for place, (name, params, _, rows) in enumerate(core[1]):
        frame = frame_of(core[1][place])
        first, table = plain_table(core)[place]
        prices = []
        for at, row in enumerate(rows):
            if judge[place][at] is None:
                prices.append(None)
                continue
            steps, words = first, 0
            path = way(core, name, at)
            for here, then in zip(path, path[1:] + (None,)):
                steps, words = steps + table[here][0], words + table[here][2]
                if then is None:
                    break
                if judge[place][here] is not None:
                    steps, words = 0, 0
                steps += table[here][1]
                if rows[here][0] == "match":
                    steps += 2 * [len(branch[1]) for branch in rows[here][2] if branch[2] == then][0]
            held = frame + 1 if row[0] == "call" else 0
            prices.append((steps, words, max(frame, held), held))
        found.append(tuple(prices))
    return tuple(found)


class PlainTest(JudgeCase):
    def test_the_example(self):
        self.assertEqual(judge_code(SUM_CORE, plain_code(SUM_CORE)),
                         ("let", (((6, 0, 5, 0), (3, 0, 5, 0), None, (12, 0, 5, 0)),)))

    def test_made_cores(self):
        priced = 0
        for seed in range(200):
            maker = Maker(seed)
            program = maker.program()
            if is_program(program):
                for core in (lowered(program), improve(lowered(program), 400)[0]):
                    self.assertEqual(judge_code(core, plain_code(core)), ("let", plain_prices(core)))
                    priced += sum(price is not None for prices in plain_prices(core) for price in prices)
        self.assertGreater(priced, 1000)


class SecondTest(unittest.TestCase):
    """The judge beside a second one, and what is let by beside the machine's runs: [36], [66]."""

    def test_changed_code_of_made_cores(self):
        self.results = {"let": 0, "refused": 0}
        self.ended = {"ended": 0, "spent": 0}
        for seed in range(70):
            maker = Maker(seed)
            program = maker.program()
            if not is_program(program):
                continue
            core = improve(lowered(program), maker.random.choice((0, 400)))[0]
            if max(len(function[3]) for function in core[1]) > 30:
                continue
            for effort in range(3):
                self.compare(maker.random, core, compile_core(core, effort))
            for example, image in ((SUM_CORE, SUM_IMAGE), (JOIN, JOIN_IMAGE), (NEXT, ((("next", 0),), NEXT_CODE))):
                self.compare(maker.random, example, image)
        self.assertGreater(min(self.results.values()), 500, self.results)
        self.assertGreater(min(self.ended.values()), 30, self.ended)

    def compare(self, random, core, image):
        for _ in range(6):
            other = image
            for _ in range(random.choice((1, 1, 1, 2, 3))):
                other = changed(random, other)
            if not is_image(other):
                continue
            result = judge_code(core, other)
            wanted, paths = second_judge(core, other)
            self.assertEqual(result, wanted, (core, other))
            self.results[result[0]] += 1
            if result[0] == "let":
                self.assertEqual(stretches(core, other), paths)
                self.assert_true(random, core, other, result[1], paths)

    def assert_true(self, random, core, image, prices, paths):
        """A run of each function passes just the stretches of its rows, and has their sums."""
        for name, params, _, _ in core[1]:
            args = tuple(value_for(random, core, kind) for kind in params)
            limit = random.choice((3, 10, 300))
            found = run_priced(core, prices, name, args, limit)
            trace = [address for place, row in passed(core, name, args, limit) for address in paths[place][row] or ()]
            wanted = found if found[0] == "ended" else ("spent", None) + found[2:]
            most = 10 ** 5 if found[0] == "ended" else len(trace)
            self.assertEqual(run_image(core, image, name, args, most), wanted, (core, image, args))
            self.assertEqual(trace_image(core, image, name, args, most), tuple(trace))
            self.ended[found[0]] += 1


class SizeTest(unittest.TestCase):
    def test_deep_terms_that_are_shared(self):
        begun = time.monotonic()
        rows = tuple(("add", at, at - 1, at - 1) for at in range(1, 239)) + (("give", 238),)
        core = core_of(rows, ("whole",))
        code = tuple(("add", 0, 0, 0) for _ in range(238)) + (("return",),)
        self.assertEqual(judge_code(core, ((("f", 0),), code))[0], "let")
        self.assertEqual(judge_code(core, ((("f", 0),), code[1:])), ("refused", "f", 238, 237))
        rows = (("make", 1, "Nil", ()),) + tuple(
            ("make", at, "Cons" if at % 2 else "Pair", (0, at - 1) if at % 2 else (at - 1, at - 1)) for at in range(2, 239))
        kinds = (("Row", (("Nil", ()), ("Cons", ("whole", "Row")), ("Pair", ("Row", "Row")))),)
        core = core_of(rows + (("give", 238),), ("whole",), "Row", kinds=kinds)
        for effort in range(3):
            self.assertEqual(judge_code(core, compile_core(core, effort))[0], "let")
        core = core_of((("num", 1, 2),) + tuple(("add", at, at - 1, at - 1) for at in range(2, 238)) + (
            ("less", 237, 0, 239), ("give", 237), ("give", 0)), ("whole",))
        self.assertEqual(judge_code(core, compile_core(core, 1))[0], "let")
        self.assertLess(time.monotonic() - begun, 20)

    def test_sixty_thousand_instructions(self):
        begun = time.monotonic()
        core = core_of((("num", 1, 1), ("give", 1)), ("whole",))
        for filling, many in ((("times", 2, 2, 10 ** 6), 3000), (("add", 0, 0, 0), 59997), (("push", 400), 59997)):
            code = (("set", 2, 1),) + (filling,) * many + (("set", 0, 1), ("return",))
            result = judge_code(core, ((("f", 0),), code))
            if filling[0] == "push":
                self.assertEqual(result, ("refused", "f", 1, len(code) - 1))
            else:
                self.assertEqual(result, ("let", ((None, (len(code), 0, 0, 0)),)))
        self.assertLess(time.monotonic() - begun, 30)


class ErrorsTest(unittest.TestCase):
    def test_errors_and_their_order(self):
        for function in (judge_code, stretches):
            for thing in STRANGE:
                with self.assertRaises(errors.BadCore):
                    function(thing, None)
                with self.assertRaises(errors.BadImage):
                    function(SUM_CORE, thing)
            with self.assertRaises(errors.Unfit):
                function(SUM_CORE, JOIN_IMAGE)
            with self.assertRaises(errors.Unfit):
                function(SUM_CORE, ((), (("return",),)))
            with self.assertRaises(errors.BadCore):
                function((), JOIN_IMAGE)
        self.assertEqual(judge_code(((), ()), ((), ())), ("let", ()))
        self.assertEqual(stretches(((), ()), ((), ())), ())


if __name__ == "__main__":
    unittest.main()
