"""[26] to [28] and the interface's section juststeps/compiling.py."""

import itertools
import time
import unittest

from juststeps import errors
from juststeps.codejudge import judge_code
from juststeps.compiling import compile_core
from juststeps.cores import is_core, way
from juststeps.images import fits, is_image
from juststeps.lowering import lowered
from juststeps.machine import run_image
from juststeps.plain import run_priced
from juststeps.plaincode import plain_code
from juststeps.programs import is_program
from juststeps.rewrites import improve
from tests.helper import BOX, JOIN, ROW, STRANGE, Maker, core_of, row_words
from tests.machines import SUM_CORE

SIX = ("Six", (("None", ()), ("Five", ("whole", "Six", "whole", "Six", "whole"))))


def used(row):
    if row[0] in ("add", "sub", "less"):
        return row[2:4] if row[0] != "less" else row[1:3]
    if row[0] == "times":
        return row[2:3]
    if row[0] in ("make", "call"):
        return row[3]
    return row[1:2] if row[0] in ("match", "give") else row[2] if row[0] == "go" else ()


def bound(row):
    if row[0] == "match":
        return [variable for branch in row[2] for variable in branch[1]]
    return [] if row[0] in ("less", "give", "go") else [row[1]]


def needed_of(core, function):
    """For each row the needed variables, as [27] says it."""
    name, params, _, rows = function
    ways = [way(core, name, at) for at in range(len(rows))]
    found = []
    for at in range(len(rows)):
        ahead = list(range(len(params))) + [variable for row in ways[at][:-1] for variable in bound(rows[row])]
        later = [variable for other in range(len(rows)) if at in ways[other] for variable in used(rows[other])]
        found.append(set(ahead) & set(later))
    return found, ways


def is_light(function, needed):
    return all(row[0] != "call" for row in function[3]) and all(len(those) <= 6 for those in needed)


def most_of(row, then, needed, first_makers, needed_behind):
    """The most steps and words of a row of a light function that goes on at then."""
    word, many = row[0], len(row[-1]) if isinstance(row[-1], tuple) else 0
    if word in ("num", "add", "sub", "times", "make") and row[1] not in needed_behind:
        return 0, 0
    if word == "make":
        return many + 1 + (0 if row[2] in first_makers else 2), many + 1
    if word == "go":
        return 1 + many + many // 2, 0
    return {"match": 2, "give": 2}.get(word, 1), 0


class CompileCase(unittest.TestCase):
    def assert_compiled(self, core):
        """All that is told of the three images; returns how many light functions the core has."""
        images = [compile_core(core, effort) for effort in range(3)]
        prices = []
        for image in images:
            self.assertTrue(is_image(image) and fits(core, image))
            word, *rest = judge_code(core, image)
            self.assertEqual(word, "let", (core, image, rest))
            prices.append(rest[0])
            self.assert_no_way_back(image)
        self.assertEqual(images[0], plain_code(core))
        self.assertEqual(prices[1], prices[2])
        self.assertLessEqual(len(images[2][1]), len(images[1][1]))
        self.assert_no_two_alike(images[2])
        light = 0
        for place, function in enumerate(core[1]):
            needed, ways = needed_of(core, function)
            self.assert_at_most_plain(ways, prices[0][place], prices[1][place])
            if is_light(function, needed):
                light += 1
                self.assert_light(core, function, needed, ways, prices[1][place])
        return light

    def assert_at_most_plain(self, ways, plain, better):
        for at in range(len(plain)):
            self.assertEqual(plain[at] is None, better[at] is None)
            if plain[at] is not None:
                self.assertLessEqual(better[at][2], plain[at][2])
                self.assertLessEqual(better[at][3], plain[at][3])
                for part in (0, 1):
                    sums = [sum(each[row][part] for row in ways[at] if each[row] is not None)
                            for each in (better, plain)]
                    self.assertLessEqual(*sums)

    def assert_light(self, core, function, needed, ways, prices):
        rows = function[3]
        first_makers = [makers[0][0] for _, makers in core[0]]
        for at, price in enumerate(prices):
            if price is None:
                continue
            steps, words = 0, 0
            for here, ahead in zip(reversed(ways[at]), list(reversed(ways[at]))[1:] + [None]):
                behind = set()
                for other in range(here + 1, len(rows)):
                    if here in ways[other]:
                        behind |= needed[other]
                most = most_of(rows[here], None, needed, first_makers, behind)
                steps, words = steps + most[0], words + most[1]
                if ahead is not None and rows[ahead][0] == "match":
                    names = [branch[1] for branch in rows[ahead][2] if branch[2] == here][0]
                    steps += sum(name in needed[here] for name in names)
                if ahead is not None and prices[ahead] is not None:
                    break
            self.assertEqual(price[2:], (0, 0), (core, at))
            self.assertLessEqual(price[0], steps, (core, at))
            self.assertLessEqual(price[1], words, (core, at))

    def then(self, code, at):
        word = code[at][0]
        behind = [] if word in ("jump", "table", "go", "return") or at + 1 == len(code) else [at + 1]
        if word in ("less", "jump"):
            return behind + [code[at][-1]]
        return behind + list(code[at][2]) if word == "table" else behind

    def assert_no_way_back(self, image):
        code = image[1]
        colour = [0] * len(code)
        for start in range(len(code)):
            path = [(start, iter(self.then(code, start)))] if not colour[start] else []
            colour[start] = colour[start] or 1
            while path:
                at, coming = path[-1]
                for other in coming:
                    self.assertNotEqual(colour[other], 1, image)
                    if not colour[other]:
                        colour[other] = 1
                        path.append((other, iter(self.then(code, other))))
                        break
                else:
                    colour[at] = 2
                    path.pop()

    def alike(self, code, one, two, known):
        """Whether two addresses have the same code behind them."""
        if one == two:
            return True
        if (one, two) not in known:
            a, b = code[one], code[two]
            if a[0] != b[0] or (a[0] == "table" and (a[1] != b[1] or len(a[2]) != len(b[2]))):
                known[one, two] = False
            elif a[0] in ("less", "jump", "table"):
                known[one, two] = a[1:-1] == b[1:-1]
            else:
                known[one, two] = a == b
            ways = (self.then(code, one), self.then(code, two))
            if known[one, two]:
                known[one, two] = len(ways[0]) == len(ways[1]) and all(
                    self.alike(code, *pair, known) for pair in zip(*ways))
        return known[one, two]

    def assert_no_two_alike(self, image):
        code, known = image[1], {}
        places = set()
        for instruction in code:
            places |= set(instruction[2]) if instruction[0] == "table" else set()
            places |= {instruction[3]} if instruction[0] == "less" else set()
        for one, two in itertools.combinations(sorted(places), 2):
            self.assertFalse(self.alike(code, one, two, known), (image, one, two))


class MadeCoresTest(CompileCase):
    def test_made_cores(self):
        light = 0
        for seed in range(150):
            maker = Maker(seed)
            program = maker.program()
            if not is_program(program):
                continue
            core = lowered(program)
            light += self.assert_compiled(core)
            light += self.assert_compiled(improve(core, 400)[0])
        self.assertGreater(light, 100)

    def test_runs_have_just_the_sums_of_the_prices(self):
        ended = 0
        for seed in range(200, 330):
            maker = Maker(seed)
            program = maker.program()
            if not is_program(program):
                continue
            core = improve(lowered(program), maker.random.choice((0, 400)))[0]
            runs = [(name, tuple(maker.value(kind) for kind in params)) for name, params, _, _ in core[1] * 2]
            images = [compile_core(core, effort) for effort in range(3)]
            for name, args in runs:
                found = [run_priced(core, judge_code(core, image)[1], name, args, 400) for image in images]
                if found[0][0] == "ended":
                    ended += 1
                    for image, wanted in zip(images, found):
                        self.assertEqual(run_image(core, image, name, args, 10 ** 5), wanted)
                    for plain, better in zip(found[0][2:], found[1][2:]):
                        self.assertLessEqual(better, plain)
        self.assertGreater(ended, 150)


class LightTest(CompileCase):
    def runs(self, core, args):
        """What the run of the first function gives at each effort."""
        function = core[1][0]
        found = [run_image(core, compile_core(core, effort), function[0], args, 10 ** 5) for effort in range(3)]
        self.assertEqual(len({result[:2] for result in found}), 1)
        return found

    def test_the_example(self):
        self.assert_compiled(SUM_CORE)
        for n in range(5):
            found = self.runs(SUM_CORE, (row_words(range(n)), (4,)))
            self.assertEqual([result[2] for result in found][0], 18 * n + 9)
            self.assertLessEqual(found[1][2], 6 * n + 4)
            self.assertEqual(found[1][3:], (0, 0))

    def test_each_order_of_the_arguments_of_a_go(self):
        for many in range(7):
            for args in itertools.permutations(range(many)):
                core = core_of((("go", f"g{many}", args),), ("whole",) * many, more=(
                    (f"g{many}", ("whole",) * many, "whole", weighed(many)),))
                self.assertTrue(is_core(core))
                image = compile_core(core, 1)
                word, prices = judge_code(core, image)
                self.assertEqual(word, "let")
                self.assertLessEqual(prices[0][0][0], 1 + many + many // 2)
        for args in itertools.product(range(3), repeat=5):
            core = core_of((("go", "g", args),), ("whole",) * 3, more=(("g", ("whole",) * 5, "whole", weighed(5)),))
            word, prices = judge_code(core, compile_core(core, 2))
            self.assertEqual(word, "let")
            self.assertLessEqual(prices[0][0][0], 1 + 5 + 2)

    def test_six_needed_variables_and_seven(self):
        for many in (4, 5, 6, 7):
            numbers = tuple(("num", at, at + 1) for at in range(many))
            # At the first add all the numbers are needed; each add makes one less of them.
            sums = tuple(("add", 50 + at, 49 + at if at else 0, at + 1) for at in range(many - 1))
            core = core_of(numbers + sums + (("give", 50 + many - 2),))
            self.assertEqual(self.assert_compiled(core), many < 7)
            found = self.runs(core, ())
            self.assertEqual(found[1][1], (many * (many + 1) // 2,))
            self.assertEqual(found[1][4] == 0, many < 7)

    def test_a_make_beside_six_needed_variables(self):
        # All eight registers are wanted: for six variables, for what is made, and for the index of its maker.
        rows = (("make", 6, "Five", (0, 3, 1, 4, 2)), ("make", 7, "Five", (2, 6, 0, 3, 1)),
                ("match", 5, (("None", (), 3), ("Five", (10, 11, 12, 13, 14), 4))), ("give", 7),
                ("make", 8, "Five", (10, 11, 12, 7, 14)), ("match", 13, (("None", (), 6), ("Five", (20, 21, 22, 23, 24), 7))),
                ("give", 8), ("make", 9, "Five", (24, 8, 22, 21, 20)), ("give", 9))
        core = core_of(rows, ("whole",) * 3 + ("Six",) * 3, "Six", kinds=(SIX,))
        self.assertTrue(is_core(core))
        self.assertEqual([len(those) for those in needed_of(core, core[1][0])[0]][:2], [6, 6])
        self.assertEqual(self.assert_compiled(core), 1)
        five = ("Five", 6, "None", 7, "None", 8)
        for last in (("None",), five, ("Five", 1, "None", 2) + five + (3,)):
            found = self.runs(core, ((1,), (2,), (3,), ("None",), five, last))
            self.assertEqual(found[1][0], "ended")

    def test_what_is_not_needed_behind_costs_nothing(self):
        rows = (("make", 9, "Nil", ()), ("make", 3, "Cons", (0, 9)), ("num", 1, 5), ("add", 2, 0, 0), ("give", 0))
        core = core_of(rows, ("whole",))
        self.assert_compiled(core)
        # The make of Nil is used by the other make, so it is made; that one is used by nothing.
        self.assertEqual(self.runs(core, ((4,),))[1], ("ended", (4,), 2, 1, 0))

    def test_a_function_with_a_call_is_not_light(self):
        self.assertEqual(self.assert_compiled(JOIN), 0)

    def test_words_are_counted_only_for_makes_that_are_needed(self):
        rows = (("make", 1, "Box", (0,)), ("make", 2, "Nil", ()), ("make", 3, "Cons", (0, 2)), ("give", 3))
        core = core_of(rows, ("whole",), "Row")
        self.assert_compiled(core)
        self.assertEqual(self.runs(core, ((4,),))[1][3], 4)

    def test_no_params_and_no_variables(self):
        core = core_of((("go", "f", ()),))
        self.assert_compiled(core)
        self.assertEqual(judge_code(core, compile_core(core, 1)), ("let", (((1, 0, 0, 0),),)))


def weighed(many):
    """Rows that give a sum in which each param has another weight."""
    rows = [("num", 100, 0)]
    for at in range(many):
        rows += [("times", 200 + at, at, 10 ** at), ("add", 101 + at, 100 + at, 200 + at)]
    return tuple(rows) + (("give", 100 + many),)


class MergedTest(CompileCase):
    def test_equal_branches_have_one_address(self):
        rows = (("less", 0, 1, 4), ("less", 1, 2, 3), ("give", 0), ("give", 1), ("less", 2, 0, 6), ("give", 0), ("give", 1))
        core = core_of(rows, ("whole",) * 3)
        self.assert_compiled(core)
        one, two = compile_core(core, 1), compile_core(core, 2)
        self.assertLess(len(two[1]), len(one[1]))

    def test_equal_branches_that_branch_again(self):
        lot = ("Lot", tuple((name, ()) for name in "ABCD"))
        pick = ("Pick", (("Left", ()), ("Right", ())))
        params = ("Lot", "whole", "whole", "Pick")
        # Three rows each, the first one at that row.
        less = lambda at: (("less", 1, 2, at + 2), ("give", 1), ("give", 2))
        other = lambda at: (("less", 1, 2, at + 2), ("give", 2), ("give", 2))
        turned = lambda at: (("less", 2, 1, at + 2), ("give", 1), ("give", 2))
        same = lambda at: (("less", 1, 1, at + 2), ("give", 1), ("give", 2))
        match = lambda at: (("match", 3, (("Left", (), at + 1), ("Right", (), at + 2))), ("give", 1), ("give", 2))
        for makes in ((less,) * 4, (match,) * 4, (less, match, less, match), (less, other, turned, less),
                      (same, less, other, less), (match, less, same, turned), (match, match, less, other)):
            for ahead in ((), (("call", 399, "f", (0, 1, 2, 3)),)):
                rows = ()
                starts = []
                for make in makes:
                    starts.append(len(ahead) + 1 + len(rows))
                    rows += make(starts[-1])
                rows = ahead + (("match", 0, tuple((name, (), at) for name, at in zip("ABCD", starts))),) + rows
                core = core_of(rows, params, kinds=(lot, pick))
                # With a call ahead it is plain code that is merged.
                self.assertEqual(self.assert_compiled(core), not ahead)
                tables = [part[2] for part in compile_core(core, 2)[1] if part[0] == "table" and len(part[2]) == 4]
                self.assertEqual([len(set(entries)) for entries in tables], [len(set(makes))])
                one, two = compile_core(core, 1)[1], compile_core(core, 2)[1]
                self.assertLess(len(two), len(one))

    def test_equal_branches_of_two_functions(self):
        rows = (("match", 0, (("Nil", (), 1), ("Cons", (2, 3), 2))), ("give", 1), ("add", 4, 1, 2), ("go", "g", (3, 4)))
        core = core_of(rows, ("Row", "whole"), more=(("g", ("Row", "whole"), "whole", rows),))
        self.assert_compiled(core)
        one, two = compile_core(core, 1)[1], compile_core(core, 2)[1]
        self.assertEqual((len(one), len(two)), (16, 10))

    def test_plain_functions_are_merged_too(self):
        rows = JOIN[1][0][3]
        core = (JOIN[0], JOIN[1] + (("other", ("Row", "Row"), "Row", rows),))
        self.assert_compiled(core)
        self.assertLess(len(compile_core(core, 2)[1]), len(compile_core(core, 1)[1]))


class SizeTest(CompileCase):
    def test_cores_of_full_size(self):
        begun = time.monotonic()
        straight = tuple(("add", at, at - 1, at - 1) for at in range(1, 239)) + (("give", 238),)
        tree, at = [], 0
        for at in range(79):
            tree += [("num", at + 1, at), ("less", at, at + 1, 3 * at + 3), ("give", at)]
        tree += [("give", 0)]
        heap = (("make", 1, "Nil", ()),) + tuple(("make", at, "Cons", (0, at - 1)) for at in range(2, 240))
        core = (ROW, BOX), tuple(
            (f"f{at}", ("whole",), "whole" if at < 8 else "Row", rows) for at, rows in enumerate(
                [straight] * 4 + [tuple(tree)] * 4 + [heap[:239] + (("give", 239),)] * 4))
        self.assertTrue(is_core(core))
        for effort in range(3):
            image = compile_core(core, effort)
            self.assertEqual(judge_code(core, image)[0], "let")
            self.assertEqual(run_image(core, image, "f0", ((3,),), 10 ** 4)[1], (3 * 2 ** 238,))
        self.assertLess(time.monotonic() - begun, 30)


class ErrorsTest(unittest.TestCase):
    def test_errors_and_their_order(self):
        for thing in STRANGE:
            with self.assertRaises(errors.BadCore):
                compile_core(thing, None)
            with self.assertRaises(errors.BadEffort):
                compile_core(JOIN, thing)
        for effort in (-1, 3, True, False, "1", (1,), 10 ** 30):
            with self.assertRaises(errors.BadEffort):
                compile_core(JOIN, effort)
        self.assertEqual(compile_core(effort=1, core=((), ())), ((), ()))


if __name__ == "__main__":
    unittest.main()
