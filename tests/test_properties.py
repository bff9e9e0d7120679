"""[17] and [65]: what each step that is let keeps, on made cores, and on the edges that are told."""

import unittest

from juststeps import errors
from juststeps.cores import is_core
from juststeps.lowering import lowered
from juststeps.plain import run_plain
from juststeps.programs import is_program, read_program
from juststeps.rewrites import improve, rewritten
from tests.helper import JOIN, NOT_OPEN, Maker, all_steps, counts_of, row_words

LIMIT = 300


class KeepCase(unittest.TestCase):
    def assert_kept(self, core, other, name, given):
        """The end, the value, and no count that is more; True if the run ends within the limit."""
        end, value, bill = run_plain(core, name, given, LIMIT)
        end_behind, value_behind, bill_behind = run_plain(other, name, given, LIMIT)
        if end == "spent":
            return False
        self.assertEqual((end_behind, value_behind), (end, value), (core, other, name, given))
        counts, counts_behind = counts_of(core, bill), counts_of(other, bill_behind)
        for word, many in counts.items():
            self.assertLessEqual(counts_behind[word], many, (word, core, other, name, given))
        return True

    def lets(self, core, rules):
        """The steps that are let, with the cores behind them."""
        found = []
        for step in all_steps(core, rules):
            try:
                found.append((step, rewritten(core, step)))
            except errors.NotLet:
                pass
        return found


class PriceTest(unittest.TestCase):
    def test_the_plain_price_is_that_of_25(self):
        text = ("kind List { Nil ( ) Cons ( whole , List ) } def sum ( List r , whole s ) : whole { match r { "
                "Nil ( ) { give s } Cons ( x , xs ) { give sum ( xs , ( s + x ) ) } } }")
        core = rewritten(lowered(read_program(text)), ("tail", "sum", 3))
        for n in range(5):
            bill = run_plain(core, "sum", (row_words(range(n)), (0,)), LIMIT)[2]
            self.assertEqual(counts_of(core, bill)["price"], 18 * n + 9)


class StepsKeepTest(KeepCase):
    def test_each_step_of_made_cores(self):
        compared = {rule: 0 for rule in NOT_OPEN + ("open",)}
        for seed in range(90):
            maker = Maker(seed)
            program = maker.program()
            if not is_program(program):
                continue
            core = lowered(program)
            if max(len(function[3]) for function in core[1]) > 25:
                continue
            runs = [(name, tuple(maker.value(kind) for kind in params)) for name, params, _, _ in core[1] * 3]
            for _ in range(3):
                core = self.go_on(maker, core, runs, compared)
        for rule, many in compared.items():
            self.assertGreater(many, 20, (rule, compared))

    def go_on(self, maker, core, runs, compared):
        """Compares all steps that are let, and returns a core behind one of them."""
        lets = self.lets(core, NOT_OPEN + ("open",))
        for step, other in lets:
            self.assertTrue(is_core(other), (core, step))
            for name, given in runs:
                if self.assert_kept(core, other, name, given):
                    compared[step[0]] += 1
        opens = [let for let in lets if let[0][0] == "open"]
        if opens and maker.random.random() < 0.5:
            lets = opens
        return maker.random.choice(lets)[1] if lets else core

    def test_whole_improvements_of_made_cores(self):
        ended = 0
        for seed in range(120, 300):
            maker = Maker(seed)
            program = maker.program()
            if not is_program(program):
                continue
            core = lowered(program)
            other, _ = improve(core, 400)
            for name, params, _, _ in core[1] * 3:
                given = tuple(maker.value(kind) for kind in params)
                ended += self.assert_kept(core, other, name, given)
        self.assertGreater(ended, 300)


class SomeStepsTest(KeepCase):
    def test_a_run_within_a_limit_stays_within_it(self):
        text = ("def most ( whole a , whole b ) : whole { if 1 < 2 { let c = ( a + b ) ; if c < ( a + b ) { give a } "
                "else { give f ( c ) } } else { give b } } def f ( whole a ) : whole { give ( a + ( 2 * 3 ) ) }")
        core = lowered(read_program(text))
        many = sum(times for _, _, times in run_plain(core, "most", ((3,), (4,)), LIMIT)[2])
        other, log = improve(core, 400)
        self.assertTrue(log)
        self.assertEqual(run_plain(core, "most", ((3,), (4,)), many)[:2], ("ended", (13,)))
        self.assertEqual(run_plain(other, "most", ((3,), (4,)), many)[:2], ("ended", (13,)))
        self.assertEqual(run_plain(core, "most", ((3,), (4,)), many - 1)[0], "spent")
        self.assertTrue(self.assert_kept(core, other, "most", ((3,), (4,))))

    def test_a_run_that_never_ends_goes_on_for_ever(self):
        core = lowered(read_program("def f ( whole a ) : whole { let b = ( 1 + 2 ) ; give f ( a ) }"))
        other, log = improve(core, 400)
        self.assertEqual(other, (core[0], (("f", ("whole",), "whole", (("go", "f", (0,)),)),)))
        for each in (core, other, rewritten(other, ("open", "f", 0))):
            self.assertEqual(run_plain(each, "f", ((1,),), 20000)[:2], ("spent", None))

    def test_join(self):
        self.assertEqual(self.lets(JOIN, NOT_OPEN + ("open",)), [])


if __name__ == "__main__":
    unittest.main()
