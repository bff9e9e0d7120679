"""[19], [20] and the interface's section juststeps/images.py."""

import unittest

from juststeps import errors
from juststeps.images import fits, is_image, read_image, write_image
from tests.helper import JOIN, STRANGE, core_of, nested
from tests.machines import EVERY, SUM_CORE, SUM_IMAGE, made_image, Random

RETURN = ("return",)
# Each instruction with each number at its bounds and one beyond: (right ones, wrong ones); the code has six addresses.
EDGES = (
    ([("set", 0, 10 ** 12), ("set", 7, -10 ** 12), ("set", 3, 0)],
     [("set", -1, 0), ("set", 8, 0), ("set", 0, 10 ** 12 + 1), ("set", 0, -10 ** 12 - 1), ("set", 0), ("set", 0, 1, 1),
      ("set", True, 0), ("set", 0, False), ("set", 0, "1"), ("set", 0, None), ("set", "0", 1)]),
    ([("copy", 0, 7), ("copy", 7, 0)],
     [("copy", 8, 0), ("copy", 0, 8), ("copy", -1, 0), ("copy", 0, -1), ("copy", 0), ("copy", 0, 1, 2)]),
    ([("add", 0, 7, 3), ("add", 7, 0, 7)],
     [("add", 8, 0, 0), ("add", 0, 8, 0), ("add", 0, 0, 8), ("add", 0, 0, -1), ("add", 0, 0), ("add", 0, 0, 0, 0)]),
    ([("sub", 0, 7, 3), ("sub", 7, 0, 7)],
     [("sub", 8, 0, 0), ("sub", 0, 8, 0), ("sub", 0, 0, 8), ("sub", 0, -1, 0), ("sub", 0, 0)]),
    ([("times", 0, 7, 10 ** 6), ("times", 7, 0, -10 ** 6)],
     [("times", 8, 0, 0), ("times", 0, 8, 0), ("times", 0, 0, 10 ** 6 + 1), ("times", 0, 0, -10 ** 6 - 1),
      ("times", 0, 0)]),
    ([("new", 0, 1), ("new", 7, 64)], [("new", 0, 0), ("new", 0, 65), ("new", 8, 1), ("new", 0), ("new", 0, -1)]),
    ([("put", 0, 0, 7), ("put", 7, 63, 0)],
     [("put", 8, 0, 0), ("put", 0, 64, 0), ("put", 0, -1, 0), ("put", 0, 0, 8), ("put", 0, 0)]),
    ([("take", 0, 7, 0), ("take", 7, 0, 63)],
     [("take", 8, 0, 0), ("take", 0, 8, 0), ("take", 0, 0, 64), ("take", 0, 0, -1), ("take", 0, 0)]),
    ([("push", 0), ("push", 400)], [("push", -1), ("push", 401), ("push",), ("push", 1, 1), ("push", True)]),
    ([("drop", 0), ("drop", 400)], [("drop", -1), ("drop", 401), ("drop",), ("drop", 1, 1)]),
    ([("save", 0, 7), ("save", 399, 0)],
     [("save", 400, 0), ("save", -1, 0), ("save", 0, 8), ("save", 0), ("save", 0, -1)]),
    ([("load", 7, 0), ("load", 0, 399)],
     [("load", 0, 400), ("load", 0, -1), ("load", 8, 0), ("load", 0), ("load", -1, 0)]),
    ([("less", 0, 7, 0), ("less", 7, 0, 5)],
     [("less", 8, 0, 0), ("less", 0, 8, 0), ("less", 0, 0, 6), ("less", 0, 0, -1), ("less", 0, 0),
      ("less", 0, 0, 0, 0)]),
    ([("table", 0, (0,)), ("table", 7, (5,) * 8)],
     [("table", 0, ()), ("table", 0, (0,) * 9), ("table", 8, (0,)), ("table", 0, (6,)), ("table", 0, (0, -1)),
      ("table", 0, [0]), ("table", 0, 0), ("table", 0, 0, 0), ("table", 0), ("table",), ("table", 0, (True,)),
      ("table", 0, ("0",)), ("table", None, (0,))]),
    ([("jump", 0), ("jump", 5)], [("jump", 6), ("jump", -1), ("jump",), ("jump", 0, 0), ("jump", "0")]),
    ([("call", "f"), ("call", "g2")], [("call", "h"), ("call", "F"), ("call",), ("call", 0), ("call", "f", "f"),
                                       ("call", ("f",)), ("call", None)]),
    ([("go", "f"), ("go", "g2")], [("go", "h"), ("go",), ("go", 0), ("go", "f", 0), ("go", ["f"])]),
    ([RETURN], [("return", 0), ("return", "f"), "return", ["return"], ("return", ())]),
    ([], [("Set", 0, 0), ("stop",), ("",), (0,), (), None, 7, "set", ("start", "f", 0), (("set",), 0, 0), ("mul", 0, 0, 0)]),
)
STARTS = (("f", 0), ("g2", 5))


def image_with(instruction, starts=STARTS):
    return starts, (RETURN,) * 3 + (instruction,) + (RETURN,) * 2


class IsImageTest(unittest.TestCase):
    def test_each_number_at_its_bounds_and_one_beyond(self):
        for right, wrong in EDGES:
            for instruction in right:
                self.assertIs(is_image(image_with(instruction)), True, instruction)
            for instruction in wrong:
                self.assertIs(is_image(image_with(instruction)), False, instruction)

    def test_starts(self):
        code = (RETURN,) * 2
        self.assertTrue(is_image(((), ())))
        self.assertTrue(is_image(((), code)))
        self.assertTrue(is_image(((("f", 0), ("g", 0)), code)))
        self.assertTrue(is_image((tuple((f"f{at}", 1) for at in range(12)), code)))
        for starts in (
            tuple((f"f{at}", 1) for at in range(13)), (("f", 2),), (("f", -1),), (("f", True),), (("f", "0"),),
            (("F", 0),), (("let", 0),), (("", 0),), (("abcdefghijk", 0),), ((0, 0),), (("f",),), (("f", 0, 0),),
            (("f", 0), ("f", 1)), (("f", 0), ("g", 0), ("f", 0)), [("f", 0)], (["f", 0],), ("f", 0), None, "f",
        ):
            self.assertIs(is_image((starts, code)), False, starts)
        self.assertFalse(is_image(((("f", 0),), ())))

    def test_sixty_thousand_instructions_and_one_more(self):
        self.assertTrue(is_image((STARTS, (("jump", 59999),) * 60000)))
        self.assertFalse(is_image((STARTS, (("jump", 60000),) * 60000)))
        self.assertFalse(is_image((STARTS, (("jump", 59999),) * 60001)))

    def test_any_object(self):
        for thing in STRANGE + (nested(80), (nested(79), ()), ((), nested(79)), ((), (), ()), ([], ()), ((), [])):
            self.assertIs(is_image(thing), False, thing)
        for thing in STRANGE:
            if thing != ():
                self.assertIs(is_image((thing, ())), False, thing)
                self.assertIs(is_image(((), thing)), False, thing)
            self.assertIs(is_image(((), (thing,))), False, thing)
            self.assertIs(is_image(((thing,), (RETURN,))), False, thing)
            for at in range(1, 4):
                instruction = ("add", 0, 0, 0)[:at] + (thing,) + (7,) * (3 - at)
                right = type(thing) is int and thing in range(8)
                self.assertIs(is_image(image_with(instruction)), right, instruction)
        self.assertIs(is_image(thing=SUM_IMAGE), True)


class FitsTest(unittest.TestCase):
    def test_names_in_their_sequence(self):
        one = core_of((("num", 0, 1), ("give", 0)))
        two = core_of((("num", 0, 1), ("give", 0)), more=(("g", (), "whole", (("num", 0, 1), ("give", 0))),))
        code = (RETURN,)
        for core, names, right in (
            (one, ("f",), True), (one, (), False), (one, ("g",), False), (one, ("f", "g"), False),
            (two, ("f", "g"), True), (two, ("g", "f"), False), (two, ("f",), False), (((), ()), (), True),
            (((), ()), ("f",), False),
        ):
            self.assertIs(fits(core, (tuple((name, 0) for name in names), code)), right)
        self.assertIs(fits(core=SUM_CORE, image=SUM_IMAGE), True)

    def test_errors(self):
        for thing in STRANGE:
            with self.assertRaises(errors.BadCore):
                fits(thing, None)
            with self.assertRaises(errors.BadImage):
                fits(JOIN, thing)
            with self.assertRaises(errors.BadImage):
                write_image(thing)


class TextTest(unittest.TestCase):
    def test_the_example(self):
        self.assertEqual(write_image(SUM_IMAGE), (
            "start sum 0\ntake 2 0 0\ntable 2 2 4\ncopy 0 1\nreturn\ntake 3 0 1\nadd 1 1 3\ntake 0 0 2\ngo sum"))

    def test_each_instruction(self):
        self.assertEqual(write_image(EVERY).split("\n"), [
            "start f 0", "start g 17", "set 3 -17", "copy 1 2", "add 0 1 2", "sub 0 1 2", "times 0 1 -5", "new 3 64",
            "put 1 2 3", "take 1 3 2", "push 5", "drop 5", "save 9 1", "load 1 9", "less 1 2 13", "table 2 5 9 14",
            "jump 3", "call g", "go f", "return"])
        self.assertEqual(read_image(text=write_image(image=EVERY)), EVERY)

    def test_there_and_back(self):
        for seed in range(40):
            image = made_image(Random(seed), ("f", "g", "h"), 30)
            self.assertTrue(is_image(image))
            self.assertEqual(read_image(write_image(image)), image)
        for right, _ in EDGES:
            for instruction in right:
                image = image_with(instruction)
                self.assertEqual(read_image(write_image(image)), image)

    def test_the_empty_text(self):
        self.assertEqual(write_image(((), ())), "")
        self.assertEqual(read_image(""), ((), ()))
        self.assertEqual(read_image("return"), ((), (RETURN,)))

    def test_any_object(self):
        for thing in STRANGE:
            if not isinstance(thing, str):
                self.assert_wrong(thing, 0)

    def assert_wrong(self, text, line):
        with self.assertRaises(errors.BadListing) as caught:
            read_image(text)
        self.assertEqual(caught.exception.line, line, text)

    def test_lines_that_are_wrong(self):
        for lines, line in (
            ((" ",), 0), (("", ""), 0), (("return", ""), 1), (("", "return"), 0), (("return", "start f 0"), 1),
            (("start f 0",), 0), (("start f 1", "return"), 0), (("start f 0", "return"), None),
            (("start f 0", "start f 0", "return"), 1), (("start f 0", "start g 0", "start f 0", "return"), 2),
            (("start f 00", "return"), 0), (("start f -0", "return"), 0), (("start f -1", "return"), 0),
            (("start F 0", "return"), 0), (("start let 0", "return"), 0), (("start f", "return"), 0),
            (("start f 0 0", "return"), 0), (("start  f 0", "return"), 0), (("start f 0 ", "return"), 0),
            ((" start f 0", "return"), 0), (("startf 0", "return"), 0), (("starts f 0", "return"), 0),
            (("start", "return"), 0), (("start f +0", "return"), 0), (("start f x", "return"), 0),
            (("start f 1", "return", "wrong"), 2), (("start f 2", "return", "wrong"), 0), (("Start f 0", "return"), 0),
            (("return", " return"), 1), (("return ",), 0), (("Return",), 0), (("stop",), 0), (("set 0 1", "set 0"), 1),
            (("set 0 -0",), 0), (("set 0 01",), 0), (("set 0 +1",), 0), (("set 0 1.0",), 0), (("set 0 --1",), 0),
            (("set 0 -",), 0), (("set 0 ",), 0), (("set  0 1",), 0), (("set 00 1",), 0), (("set 8 1",), 0),
            (("set -1 1",), 0), (("set 0 1000000000000",), None), (("set 0 1000000000001",), 0),
            (("set 0 -1000000000000",), None), (("set 0 " + "9" * 5000,), 0), (("set 0 -" + "9" * 5000,), 0),
            (("set 0 0x1",), 0), (("set 0 1_0",), 0), (("set a 1",), 0), (("set 0 1 1",), 0), (("jump 0",), None),
            (("jump 1",), 0), (("jump 1", "wrong"), 1), (("jump 2", "wrong"), 0), (("jump 1", "jump 2"), 1),
            (("call f",), 0), (("start f 0", "call f"), None), (("start f 0", "call g"), 1), (("start f 0", "call"), 1),
            (("start f 0", "go f", "go F"), 2), (("table 0",), 0), (("table",), 0), (("table 0 0",), None),
            (("table 0 0 0 0 0 0 0 0 0",), None), (("table 0 0 0 0 0 0 0 0 0 0",), 0), (("table 0 0 1",), 0),
            (("table 0  0",), 0), (("table 0 0 ",), 0), (("table 8 0",), 0), (("table 0 (0,)",), 0),
            (("less 0 0 0",), None), (("less 0 0 1",), 0), (("new 0 0",), 0), (("put 0 64 0",), 0),
        ):
            text = "\n".join(lines)
            if line is None:
                self.assertEqual(write_image(read_image(text)), text)
            else:
                self.assert_wrong(text, line)

    def test_twelve_starts_and_thirteen(self):
        for many in (12, 13):
            lines = [f"start f{at} 0" for at in range(many)] + ["return"]
            if many == 12:
                self.assertEqual(len(read_image("\n".join(lines))[0]), 12)
            else:
                self.assert_wrong("\n".join(lines), 12)
                self.assert_wrong("\n".join(lines[:12] + ["start f0 9"] + lines[13:]), 12)
                self.assert_wrong("\n".join(lines[:3] + ["start f0 0"] + lines[3:]), 3)

    def test_sixty_thousand_lines_and_one_more(self):
        lines = ["start f 0", "start g 59999"] + ["jump 59999"] * 60000
        self.assertEqual(len(read_image("\n".join(lines))[1]), 60000)
        self.assert_wrong("\n".join(lines + ["return"]), 60002)
        # An address counts against all lines, those beyond the bound among them.
        self.assert_wrong("\n".join(["start f 60001"] + ["jump 60001"] * 60002), 60001)
        self.assert_wrong("\n".join(["start f 60002"] + ["jump 60001"] * 60002), 0)
        self.assert_wrong("\n".join(["start f 60001"] + ["jump 60002"] * 60002), 1)


if __name__ == "__main__":
    unittest.main()
